/- What books joined are, whichever way round. No function of the program in it. No law is proved here. -/
import Derived.Test.YtlhfggnnikmikaaRefRightsJoin
namespace Go.Proofs.Ytlhfggnnikmikaa
open Go.RowKit

theorem joinL5_comm {la lb : List Int} (h : la.length = lb.length) : joinL la lb = joinL lb la :=
  list_same (by rw [joinL_length h, joinL_length h.symm, h]) fun k hk => by
    rw [joinL_length h] at hk
    rw [joinL_at h hk, joinL_at h.symm (by omega)]; omega
theorem joinL5_self (la : List Int) : joinL la la = la :=
  list_same (joinL_length rfl) fun k hk => by
    rw [joinL_length rfl] at hk
    rw [joinL_at rfl hk]; omega
theorem joinL5_again {la lb : List Int} (h : la.length = lb.length) : joinL (joinL la lb) lb = joinL la lb :=
  list_same (joinL_length (by rw [joinL_length h, h])) fun k hk => by
    rw [joinL_length (by rw [joinL_length h, h]), joinL_length h] at hk
    rw [joinL_at (by rw [joinL_length h, h]) (by rw [joinL_length h]; exact hk), joinL_at h hk]; omega

theorem rw_same {la lb : List Rw} (h : la.length = lb.length) (h2 : ∀ k, k < la.length → at_ la k = at_ lb k) : la = lb := by
  apply List.ext_getElem h
  intro k h3 h4
  have := h2 k h3
  rwa [at_lt h3, at_lt h4] at this

/-- as many rows, and as many numbers in each -/
def Alike (la lb : List Rw) : Prop := la.length = lb.length ∧ ∀ k, k < la.length → (at_ la k).out.length = (at_ lb k).out.length
theorem alike_of {c : Cf} {la lb : List Rw} (ha : rightOk c la) (hb : rightOk c lb) : Alike la lb := by
  have h : la.length = lb.length := by have := ha.2.1; have := hb.2.1; omega
  exact ⟨h, fun k hk => by rw [(ha.fits k hk).1, (hb.fits k (by omega)).1, h]⟩

theorem joinLs_comm {la lb : List Rw} (h : Alike la lb) : joinLs la lb = joinLs lb la :=
  rw_same (by rw [joinLs_length h.1, joinLs_length h.1.symm, h.1]) fun k hk => by
    rw [joinLs_length h.1] at hk
    rw [joinLs_at h.1 hk, joinLs_at h.1.symm (by have := h.1; omega)]
    unfold joinRw
    rw [joinL5_comm (h.2 k hk)]
    congr 1 <;> omega
theorem joinLs_self (la : List Rw) : joinLs la la = la :=
  rw_same (joinLs_length rfl) fun k hk => by
    rw [joinLs_length rfl] at hk
    rw [joinLs_at rfl hk]
    unfold joinRw
    rw [joinL5_self]
    cases at_ la k
    simp
theorem joinLs_again {la lb : List Rw} (h : Alike la lb) : joinLs (joinLs la lb) lb = joinLs la lb := by
  have e := joinLs_length h.1
  have h2 : (joinLs la lb).length = lb.length := by rw [e, h.1]
  refine rw_same (joinLs_length h2) fun k hk => ?_
  rw [joinLs_length h2, e] at hk
  rw [joinLs_at h2 (by omega), joinLs_at h.1 hk]
  unfold joinRw
  simp only
  rw [joinL5_again (h.2 k hk)]
  congr 1 <;> omega

theorem joinR_comm (c : Cf) (la lb : List Rw) : joinR c la lb = joinR c lb la := by
  unfold joinR
  by_cases h : rightOk c la ∧ rightOk c lb
  · rw [if_pos h, if_pos h.symm, joinLs_comm (alike_of h.1 h.2)]
  · rw [if_neg h, if_neg fun h2 => h h2.symm]
theorem joinR_self (c : Cf) (la : List Rw) : (joinR c la la).2 = 0 ∧ (joinR c la la).1 = la ∧ rightB c la = true ∨ (joinR c la la).2 = 1 ∧ rightB c la = false := by
  unfold joinR
  by_cases h : rightOk c la
  · rw [if_pos ⟨h, h⟩, joinLs_self, if_pos h]
    exact Or.inl ⟨rfl, rfl, decide_eq_true h⟩
  · rw [if_neg fun h2 => h h2.1]
    exact Or.inr ⟨rfl, rightB_no h⟩
theorem joinR_cases (c : Cf) (la lb : List Rw) : (joinR c la lb).2 = 0 ∧ joinR c (joinR c la lb).1 lb = ((joinR c la lb).1, 0) ∧ rightB c (joinR c la lb).1 = true ∨ (joinR c la lb).2 = 1 ∧ (joinR c la lb).1 = [] ∨ (joinR c la lb).2 = 7 ∧ (joinR c la lb).1 = [] := by
  by_cases h : rightOk c la ∧ rightOk c lb
  · by_cases h2 : rightOk c (joinLs la lb)
    · have e : joinR c la lb = (joinLs la lb, 0) := by unfold joinR; rw [if_pos h, if_pos h2]
      rw [e]
      refine Or.inl ⟨rfl, ?_, decide_eq_true h2⟩
      unfold joinR
      rw [if_pos ⟨h2, h.2⟩, joinLs_again (alike_of h.1 h.2), if_pos h2]
    · have e : joinR c la lb = ([], 7) := by unfold joinR; rw [if_pos h, if_neg h2]
      rw [e]
      exact Or.inr (Or.inr ⟨rfl, rfl⟩)
  · have e : joinR c la lb = ([], 1) := by unfold joinR; rw [if_neg h]
    rw [e]
    exact Or.inr (Or.inl ⟨rfl, rfl⟩)
end Go.Proofs.Ytlhfggnnikmikaa
