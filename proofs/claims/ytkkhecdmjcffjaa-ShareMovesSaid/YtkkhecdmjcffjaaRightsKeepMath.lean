/- What a row set anew does to right books: to rights, and to the value. No function of the program in it. No law is proved here. -/
import Derived.Test.YtkkhecdmjcffjaaRightsWords
namespace Go.Proofs.Ytkkhecdmjcffjaa
open Go.RowKit

theorem flow_same {l l' : List Rw} (h : ∀ p, (at_ l' p).out = (at_ l p).out) (who : Nat) : ∀ k, flow l' who k = flow l who k
  | 0 => rfl
  | k + 1 => by rw [flow, flow, flow_same h who k, h, h]

theorem set_out {l : List Rw} {k : Nat} (hk : k < l.length) {r : Rw} (hr : r.out = (at_ l k).out) (p : Nat) : (at_ (l.set k r) p).out = (at_ l p).out := by
  rw [at_set hk]
  by_cases h : p = k
  · rw [if_pos h, hr, h]
  · rw [if_neg h]

/-- rights, where what one put in and took out is set anew -/
theorem rights_set {c : Cf} {l : List Rw} {k : Nat} (hk : k < l.length) {r : Rw} (hr : r.out = (at_ l k).out) (p : Nat) :
    rightsV c (l.set k r) p = rightsV c l p + (if p = k then r.inc - (at_ l k).inc - (r.use - (at_ l k).use) else 0) := by
  unfold rightsV
  rw [flow_same (set_out hk hr), List.length_set, at_set hk]
  by_cases h : p = k
  · subst h; rw [if_pos rfl, if_pos rfl]; omega
  · rw [if_neg h, if_neg h]; omega
theorem sum_set {c : Cf} {l : List Rw} {k : Nat} (hk : k < l.length) {r : Rw} (hr : r.out = (at_ l k).out) : ∀ n,
    sumRights c (l.set k r) n = sumRights c l n + (if k < n then r.inc - (at_ l k).inc - (r.use - (at_ l k).use) else 0)
  | 0 => by simp [sumRights]
  | n + 1 => by
    rw [sumRights, sumRights, sum_set hk hr n, rights_set hk hr n]
    by_cases h : k < n
    · rw [if_pos h, if_neg (by omega), if_pos (by omega)]; omega
    · by_cases h2 : n = k
      · subst h2; rw [if_neg h, if_pos rfl, if_pos (by omega)]; omega
      · rw [if_neg h, if_neg h2, if_neg (by omega)]; omega

/-- right books stay right -/
theorem right_set {c : Cf} {l : List Rw} (h : rightOk c l) {k : Nat} (hk : k < l.length) {r : Rw} (hr : r.out = (at_ l k).out) (h1 : 0 ≤ r.inc ∧ r.inc ≤ c.c) (h2 : 0 ≤ r.use ∧ r.use ≤ 1099511627776)
    (h3 : 0 ≤ rightsV c l k + (r.inc - (at_ l k).inc - (r.use - (at_ l k).use))) : rightOk c (l.set k r) := by
  have hc := cf_most h.1
  refine ⟨h.1, by rw [List.length_set]; exact h.2.1, fun i hi => ?_, fun i hi => ?_⟩
  · rw [List.length_set] at hi
    obtain ⟨e1, e2⟩ := h.2.2.1 i hi
    by_cases hik : i = k
    · subst hik
      rw [at_set hk, if_pos rfl]
      obtain ⟨g1, g2, g3, _, _, g6⟩ := (mayR_iff _ _ _ _ _).1 e1
      refine ⟨(mayR_iff _ _ _ _ _).2 ⟨by rw [hr]; exact g1, g2, g3, ⟨h1.1, by omega⟩, h2, by rw [hr]; exact g6⟩, h1.2⟩
    · rw [at_set hk, if_neg hik]; exact ⟨e1, e2⟩
  · rw [List.length_set] at hi
    rw [rights_set hk hr]
    by_cases hik : i = k
    · subst hik; rw [if_pos rfl]; exact h3
    · rw [if_neg hik]; have := h.2.2.2 i hi; omega

/-- a list set anew at one place -/
theorem set_num {l : List Int} {j : Nat} (hj : j < l.length) (x : Int) (p : Nat) : (l.set j x)[p]?.getD 0 = if p = j then x else l[p]?.getD 0 := by
  rw [List.getElem?_set]
  by_cases h : p = j
  · subst h; simp [hj]
  · rw [if_neg (Ne.symm h), if_neg h]

section
variable {c : Cf} {l : List Rw} {k j : Nat} {x : Int}
/-- books, where one number of a row's list is set anew -/
def moved (l : List Rw) (k j : Nat) (x : Int) : List Rw := l.set k ⟨(at_ l k).inc, (at_ l k).use, (at_ l k).out.set j x⟩
theorem moved_out (hk : k < l.length) (hj : j < (at_ l k).out.length) (p q : Nat) : (at_ (moved l k j x) p).out[q]?.getD 0 = (at_ l p).out[q]?.getD 0 + (if p = k ∧ q = j then x - (at_ l k).out[j]?.getD 0 else 0) := by
  unfold moved
  rw [at_set hk]
  by_cases hp : p = k
  · subst hp
    rw [if_pos rfl]
    simp only
    rw [set_num hj]
    by_cases hq : q = j
    · subst hq; simp; omega
    · simp [hq]
  · simp [hp]
theorem flow_moved (hk : k < l.length) (hj : j < (at_ l k).out.length) (who : Nat) : ∀ n, flow (moved l k j x) who n = flow l who n + (if who = j ∧ k < n then x - (at_ l k).out[j]?.getD 0 else 0) - (if who = k ∧ j < n then x - (at_ l k).out[j]?.getD 0 else 0)
  | 0 => by simp [flow]
  | n + 1 => by
    rw [flow, flow, flow_moved hk hj who n, moved_out hk hj, moved_out hk hj]
    generalize x - (at_ l k).out[j]?.getD 0 = y
    generalize (at_ l n).out[who]?.getD 0 = y1
    generalize (at_ l who).out[n]?.getD 0 = y2
    generalize flow l who n = y3
    by_cases a1 : who = j <;> by_cases a2 : who = k <;> by_cases a3 : k < n <;> by_cases a4 : j < n <;> by_cases a5 : n = k <;> by_cases a6 : n = j <;> simp only [a1, a2, a3, a4, a5, a6, true_and, and_true, false_and, and_false, if_true, if_false] <;> (try omega) <;> (repeat' split) <;> omega
end
end Go.Proofs.Ytkkhecdmjcffjaa
