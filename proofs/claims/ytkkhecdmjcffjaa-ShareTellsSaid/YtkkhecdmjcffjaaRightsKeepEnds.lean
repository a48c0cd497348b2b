/- What is put, taken and moved does to right books and to their value. No function of the program in it. No law is proved here. -/
import Derived.Test.YtkkhecdmjcffjaaRightsKeepMath
namespace Go.Proofs.Ytkkhecdmjcffjaa
open Go.RowKit

section
variable {c : Cf} {l : List Rw} {k j : Nat} {x : Int}
theorem moved_same (hk : k < l.length) (p : Nat) : (at_ (moved l k j x) p).inc = (at_ l p).inc ∧ (at_ (moved l k j x) p).use = (at_ l p).use ∧ (at_ (moved l k j x) p).out.length = (at_ l p).out.length := by
  unfold moved
  rw [at_set hk]
  by_cases h : p = k
  · subst h; rw [if_pos rfl]; exact ⟨rfl, rfl, List.length_set⟩
  · rw [if_neg h]; exact ⟨rfl, rfl, rfl⟩
theorem moved_len : (moved l k j x).length = l.length := by unfold moved; rw [List.length_set]
theorem rights_moved (hk : k < l.length) (hj : j < (at_ l k).out.length) (hjl : j < l.length) (p : Nat) :
    rightsV c (moved l k j x) p = rightsV c l p + (if p = j then x - (at_ l k).out[j]?.getD 0 else 0) - (if p = k then x - (at_ l k).out[j]?.getD 0 else 0) := by
  unfold rightsV
  obtain ⟨e1, e2, _⟩ := moved_same (j := j) (x := x) hk p
  rw [e1, e2, moved_len, flow_moved hk hj]
  simp only [hk, hjl, and_true]
  omega
theorem sum_moved (hk : k < l.length) (hj : j < (at_ l k).out.length) (hjl : j < l.length) : ∀ n, sumRights c (moved l k j x) n = sumRights c l n + (if j < n then x - (at_ l k).out[j]?.getD 0 else 0) - (if k < n then x - (at_ l k).out[j]?.getD 0 else 0)
  | 0 => by simp [sumRights]
  | n + 1 => by
    rw [sumRights, sumRights, sum_moved hk hj hjl n, rights_moved hk hj hjl n]
    generalize x - (at_ l k).out[j]?.getD 0 = y
    generalize sumRights c l n = y1
    generalize rightsV c l n = y2
    by_cases a1 : j < n <;> by_cases a2 : k < n <;> by_cases a3 : n = j <;> by_cases a4 : n = k <;> simp only [a1, a2, a3, a4, if_true, if_false] <;> (try omega) <;> (repeat' split) <;> omega
theorem right_moved (h : rightOk c l) (hk : k < l.length) (hj : j < (at_ l k).out.length) (hjl : j < l.length) (hjk : j ≠ k) (h1 : (at_ l k).out[j]?.getD 0 ≤ x) (h2 : x ≤ 1125899906842624)
    (h3 : x - (at_ l k).out[j]?.getD 0 ≤ rightsV c l k) : rightOk c (moved l k j x) := by
  refine ⟨h.1, by rw [moved_len]; exact h.2.1, fun i hi => ?_, fun i hi => ?_⟩
  · rw [moved_len] at hi
    obtain ⟨e1, e2⟩ := h.2.2.1 i hi
    obtain ⟨m1, m2, m3⟩ := moved_same (j := j) (x := x) hk i
    obtain ⟨g1, g2, g3, g4, g5, g6⟩ := (mayR_iff _ _ _ _ _).1 e1
    refine ⟨(mayR_iff _ _ _ _ _).2 ⟨by rw [m3]; exact g1, g2, g3, by rw [m1]; exact g4, by rw [m2]; exact g5, fun q hq => ?_⟩, by rw [m1]; exact e2⟩
    rw [m3] at hq
    have h6 := g6 q hq
    rw [moved_out hk hj]
    by_cases hiq : i = k ∧ q = j
    · obtain ⟨rfl, rfl⟩ := hiq
      rw [if_pos ⟨rfl, rfl⟩]
      unfold mostOf at h6 ⊢
      rw [if_neg (by omega)]
      rw [if_neg (by omega)] at h6
      omega
    · rw [if_neg hiq]; omega
  · rw [moved_len] at hi
    rw [rights_moved hk hj hjl]
    have h4 := h.2.2.2 i hi
    have h5 := h.2.2.2 k hk
    by_cases hij : i = j
    · subst hij; rw [if_pos rfl, if_neg hjk]; omega
    · rw [if_neg hij]
      by_cases hik : i = k
      · subst hik; rw [if_pos rfl]; omega
      · rw [if_neg hik]; omega
end

theorem sum_up {c : Cf} {l : List Rw} (h : rightOk c l) : ∀ n, n ≤ l.length → 0 ≤ sumRights c l n
  | 0, _ => by simp [sumRights]
  | n + 1, hn => by
    have := sum_up h n (by omega)
    have := h.2.2.2 n (by omega)
    rw [sumRights]; omega
theorem value_of {c : Cf} {l : List Rw} (h : rightOk c l) : valueV c l = sumRights c l l.length := if_pos h

theorem put_keeps (c : Cf) (l : List Rw) (who amount : Int) : (putR c l who amount).2 = 0 ∧ (1 ≤ amount ∧ amount ≤ 1099511627776) ∧ rightOk c (putR c l who amount).1 ∧ valueV c (putR c l who amount).1 = valueV c l + amount ∨ (putR c l who amount).2 ≠ 0 := by
  unfold putR
  by_cases h : askedV c l who amount = 0
  · rw [if_pos h]
    by_cases h2 : amount ≤ c.c - (at_ l who.toNat).inc
    · rw [if_pos h2]
      obtain ⟨hok, h3, h4, h5, h6⟩ := askedV_zero h
      have hk : who.toNat < l.length := by have := hok.2.1; omega
      obtain ⟨_, f1, f2, f3, f4, _⟩ := hok.fits who.toNat hk
      have hr := hok.2.2.2 who.toNat hk
      have hR : rightOk c (l.set who.toNat ⟨(at_ l who.toNat).inc + amount, (at_ l who.toNat).use, (at_ l who.toNat).out⟩) := right_set hok hk rfl ⟨by simp only; omega, by simp only; omega⟩ ⟨f3, f4⟩ (by simp only; omega)
      refine Or.inl ⟨rfl, ⟨h5, h6⟩, hR, ?_⟩
      rw [value_of hR, value_of hok, List.length_set, sum_set (r := ⟨(at_ l who.toNat).inc + amount, (at_ l who.toNat).use, (at_ l who.toNat).out⟩) hk rfl, if_pos hk]
      simp only; omega
    · rw [if_neg h2]; exact Or.inr (by simp)
  · rw [if_neg h]; exact Or.inr h
theorem take_keeps (c : Cf) (l : List Rw) (who amount : Int) : (takeR c l who amount).2 = 0 ∧ (1 ≤ amount ∧ amount ≤ 1099511627776) ∧ rightOk c (takeR c l who amount).1 ∧ valueV c (takeR c l who amount).1 = valueV c l - amount ∨ (takeR c l who amount).2 ≠ 0 := by
  unfold takeR
  by_cases h : askedV c l who amount = 0
  · rw [if_pos h]
    by_cases h2 : amount ≤ rightsV c l who.toNat
    · rw [if_pos h2]
      by_cases h7 : (at_ l who.toNat).use + amount ≤ 1099511627776
      · rw [if_pos h7]
        obtain ⟨hok, h3, h4, h5, h6⟩ := askedV_zero h
        have hk : who.toNat < l.length := by have := hok.2.1; omega
        obtain ⟨_, f1, f2, f3, f4, _⟩ := hok.fits who.toNat hk
        have hc := (hok.2.2.1 who.toNat hk).2
        have hR : rightOk c (l.set who.toNat ⟨(at_ l who.toNat).inc, (at_ l who.toNat).use + amount, (at_ l who.toNat).out⟩) := right_set hok hk rfl ⟨f1, hc⟩ ⟨by simp only; omega, h7⟩ (by simp only; omega)
        refine Or.inl ⟨rfl, ⟨h5, h6⟩, hR, ?_⟩
        rw [value_of hR, value_of hok, List.length_set, sum_set (r := ⟨(at_ l who.toNat).inc, (at_ l who.toNat).use + amount, (at_ l who.toNat).out⟩) hk rfl, if_pos hk]
        simp only; omega
      · rw [if_neg h7]; exact Or.inr (by simp)
    · rw [if_neg h2]; exact Or.inr (by simp)
  · rw [if_neg h]; exact Or.inr h
theorem move_keeps (c : Cf) (l : List Rw) (who tg amount : Int) : (moveR c l who tg amount).2 = 0 ∧ (1 ≤ amount ∧ amount ≤ 1099511627776) ∧ rightOk c (moveR c l who tg amount).1 ∧ valueV c (moveR c l who tg amount).1 = valueV c l ∧ ofV c (moveR c l who tg amount).1 tg = ofV c l tg + amount ∨ (moveR c l who tg amount).2 ≠ 0 := by
  unfold moveR
  by_cases h0 : askedV c l who amount ≠ 1 ∧ 0 ≤ tg ∧ tg < c.n ∧ tg ≠ who
  · rw [if_pos h0]
    by_cases h : askedV c l who amount = 0
    · rw [if_pos h]
      by_cases h2 : amount ≤ rightsV c l who.toNat
      · rw [if_pos h2]
        by_cases h7 : (at_ l who.toNat).out[tg.toNat]?.getD 0 + amount ≤ 1125899906842624
        · rw [if_pos h7]
          obtain ⟨hok, h3, h4, h5, h6⟩ := askedV_zero h
          obtain ⟨_, t1, t2, t3⟩ := h0
          have hk : who.toNat < l.length := by have := hok.2.1; omega
          have hjl : tg.toNat < l.length := by have := hok.2.1; omega
          obtain ⟨fl, f1, f2, f3, f4, _⟩ := hok.fits who.toNat hk
          have hj : tg.toNat < (at_ l who.toNat).out.length := by omega
          have hR : rightOk c (moved l who.toNat tg.toNat ((at_ l who.toNat).out[tg.toNat]?.getD 0 + amount)) := right_moved hok hk hj hjl (by omega) (by omega) h7 (by omega)
          refine Or.inl ⟨rfl, ⟨h5, h6⟩, hR, ?_, ?_⟩
          · show valueV c (moved l who.toNat tg.toNat ((at_ l who.toNat).out[tg.toNat]?.getD 0 + amount)) = valueV c l
            rw [value_of hR, value_of hok, moved_len, sum_moved hk hj hjl, if_pos hjl, if_pos hk]; omega
          · show ofV c (moved l who.toNat tg.toNat ((at_ l who.toNat).out[tg.toNat]?.getD 0 + amount)) tg = ofV c l tg + amount
            unfold ofV
            rw [if_pos ⟨hR, t1, t2⟩, if_pos ⟨hok, t1, t2⟩, rights_moved hk hj hjl, if_pos rfl, if_neg (by omega)]; omega
        · rw [if_neg h7]; exact Or.inr (by simp)
      · rw [if_neg h2]; exact Or.inr (by simp)
    · rw [if_neg h]; exact Or.inr (by simp)
  · rw [if_neg h0]; exact Or.inr (by simp)
end Go.Proofs.Ytkkhecdmjcffjaa
