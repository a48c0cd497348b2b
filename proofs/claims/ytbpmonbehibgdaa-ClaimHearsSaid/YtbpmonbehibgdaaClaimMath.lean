/- Layer 14's mathematics: the oldest claim is older than all others; who is held is held by it; what is heard. No program in it; no law is proved here. -/
import Derived.Test.YtbpmonbehibgdaaClaimWords
namespace Go.Proofs.Ytbpmonbehibgdaa
open Go.RowKit

/-- the stamp of one note's head is older than that of another one -/
def ntOld (x y : Nt) : Bool := olderB x.t x.a y.t y.a
theorem ntOld_iff {x y : Nt} : ntOld x y = true ↔ (x.t < y.t ∨ (x.t = y.t ∧ x.a < y.a)) := olderB_iff
theorem on_has {c : Cf} {who : Int} {x : Nt} (h : noteB c who x = true) (ho : onB c x = true) : x.a = who ∧ mayB x.t x.a c.n = true := by
  have h1 : 0 < x.m := (of_decide_eq_true ho).2.1
  unfold noteB at h
  simp only [Bool.and_eq_true, Bool.or_eq_true] at h
  obtain ⟨_, h2, _⟩ := h
  rcases h2 with h2 | h2
  · have := (of_decide_eq_true h2).2.2
    omega
  · unfold hasHead at h2
    rw [Bool.and_eq_true] at h2
    exact ⟨(of_decide_eq_true h2.2).1, h2.1⟩
theorem notesOk.own {c : Cf} {who : Int} {l : List Nt} (h : notesOk c who l) {i : Nat} (hi : i < l.length) (ho : onB c (ntAt l i) = true) : (ntAt l i).a = (i : Int) := (on_has (h.2.2.2 i hi).1 ho).1
theorem notesOk.other {c : Cf} {who : Int} {l : List Nt} (h : notesOk c who l) {i : Nat} (hi : i < l.length) (ho : onB c (ntAt l i) = true) : (i : Int) ≠ who := fun e => by
  have h1 := (h.2.2.2 i hi).2 e
  rw [h1] at ho
  have : (0 : Int) < nt0.m := (of_decide_eq_true ho).2.1
  exact absurd this (by decide)
/-- which of the first k has the oldest claim: none has one, or one has it and it is older than all others -/
theorem oldK_is {c : Cf} {who : Int} {l : List Nt} (h : notesOk c who l) : ∀ k, k ≤ l.length →
    (oldK c l k = none ∧ ∀ i, i < k → onB c (ntAt l i) = false) ∨ ∃ j, oldK c l k = some j ∧ j < k ∧ onB c (ntAt l j) = true ∧ ∀ i, i < k → onB c (ntAt l i) = true → i = j ∨ ntOld (ntAt l j) (ntAt l i) = true
  | 0, _ => Or.inl ⟨rfl, fun i hi => absurd hi (Nat.not_lt_zero _)⟩
  | k + 1, hk => by
    have ih := oldK_is h k (by omega)
    unfold oldK
    cases ho : onB c (ntAt l k) with
    | false =>
      simp only [Bool.false_eq_true, if_false]
      rcases ih with ⟨h1, h2⟩ | ⟨j, h1, h2, h3, h4⟩
      · exact Or.inl ⟨h1, fun i hi => if e : i = k then by rw [e]; exact ho else h2 i (by omega)⟩
      · refine Or.inr ⟨j, h1, by omega, h3, fun i hi hon => ?_⟩
        by_cases e : i = k
        · subst e; rw [ho] at hon; cases hon
        · exact h4 i (by omega) hon
    | true =>
      simp only [if_true]
      rcases ih with ⟨h1, h2⟩ | ⟨j, h1, h2, h3, h4⟩
      · rw [h1]
        refine Or.inr ⟨k, rfl, by omega, ho, fun i hi hon => ?_⟩
        by_cases e : i = k
        · exact Or.inl e
        · rw [h2 i (by omega)] at hon; cases hon
      · rw [h1]
        have ek := h.own (by omega : k < l.length) ho
        have ej := h.own (by omega : j < l.length) h3
        cases hkj : olderB (ntAt l k).t (ntAt l k).a (ntAt l j).t (ntAt l j).a with
        | true =>
          refine Or.inr ⟨k, by simp [hkj], by omega, ho, fun i hi hon => ?_⟩
          by_cases e : i = k
          · exact Or.inl e
          · right
            rcases h4 i (by omega) hon with e2 | h5
            · subst e2; exact hkj
            · rw [ntOld_iff] at h5 ⊢
              rw [olderB_iff] at hkj
              omega
        | false =>
          refine Or.inr ⟨j, by simp [hkj], by omega, h3, fun i hi hon => ?_⟩
          by_cases e : i = k
          · right
            subst e
            have h6 : ¬ ((ntAt l i).t < (ntAt l j).t ∨ ((ntAt l i).t = (ntAt l j).t ∧ (ntAt l i).a < (ntAt l j).a)) := fun h7 => by rw [olderB_yes h7] at hkj; cases hkj
            rw [ntOld_iff]
            omega
          · exact h4 i (by omega) hon
/-- whether somebody has a claim, and whose is the oldest -/
theorem oldest_is {c : Cf} {who : Int} {l : List Nt} (h : notesOk c who l) :
    (oldestN c who l = (⟨0, 0, 0⟩, false) ∧ ∀ i, i < l.length → onB c (ntAt l i) = false) ∨
    ∃ j, j < l.length ∧ oldestN c who l = (headOf (ntAt l j), true) ∧ onB c (ntAt l j) = true ∧ ∀ i, i < l.length → onB c (ntAt l i) = true → i = j ∨ ntOld (ntAt l j) (ntAt l i) = true := by
  unfold oldestN
  rw [if_pos h]
  rcases oldK_is h l.length (Nat.le_refl _) with ⟨h1, h2⟩ | ⟨j, h1, h2, h3, h4⟩
  · rw [h1]; exact Or.inl ⟨rfl, h2⟩
  · rw [h1]; exact Or.inr ⟨j, h2, rfl, h3, h4⟩
/-- who is held is held by the oldest claim -/
theorem held_is {c : Cf} {who : Int} {l : List Nt} (h : notesOk c who l) (t a : Int) : heldB c who l t a = ((oldestN c who l).2 && olderB (oldestN c who l).1.t (oldestN c who l).1.a t a) := by
  rcases oldest_is h with ⟨h1, h2⟩ | ⟨j, hj, h1, h3, h4⟩
  · rw [h1]
    refine decide_eq_false fun ⟨_, i, hi, ho, _⟩ => ?_
    rw [h2 i hi] at ho
    cases ho
  · rw [h1]
    simp only [Bool.true_and]
    cases hh : olderB (headOf (ntAt l j)).t (headOf (ntAt l j)).a t a with
    | true => exact decide_eq_true ⟨h, j, hj, h3, hh⟩
    | false =>
      refine decide_eq_false fun ⟨_, i, hi, ho, ht⟩ => ?_
      rcases h4 i hi ho with e | h5
      · subst e
        have : olderB (ntAt l i).t (ntAt l i).a t a = false := hh
        rw [this] at ht
        cases ht
      · have h6 : olderB (ntAt l j).t (ntAt l j).a t a = true := by
          rw [ntOld_iff] at h5
          rw [olderB_iff] at ht ⊢
          omega
        have : olderB (ntAt l j).t (ntAt l j).a t a = false := hh
        rw [this] at h6
        cases h6
theorem held_none {c : Cf} {who : Int} {l : List Nt} (h : notesOk c who l) (t a : Int) (ho : (oldestN c who l).2 = false) : heldB c who l t a = false := by
  rw [held_is h, ho]; rfl
/-- a claim is the oldest one, or the oldest one is older than it, and it is held then -/
theorem turn_is {c : Cf} {who : Int} {l : List Nt} (h : notesOk c who l) {r : Rq} (hr : oldestN c who l = (r, true)) {i : Nat} (hi : i < l.length) (ho : onB c (ntAt l i) = true) :
    olderB r.t r.a (ntAt l i).t (ntAt l i).a = !decide (headOf (ntAt l i) = r) ∧ heldB c who l (ntAt l i).t (ntAt l i).a = olderB r.t r.a (ntAt l i).t (ntAt l i).a := by
  refine ⟨?_, by rw [held_is h, hr]; rfl⟩
  rcases oldest_is h with ⟨h1, _⟩ | ⟨j, hj, h1, h3, h4⟩
  · rw [h1] at hr; cases (Prod.mk.inj hr).2
  · have er : headOf (ntAt l j) = r := (Prod.mk.inj (h1.symm.trans hr)).1
    subst er
    rcases h4 i hi ho with e | h5
    · subst e
      rw [decide_eq_true rfl]
      exact olderB_no (by unfold headOf; simp only; omega)
    · have hne : headOf (ntAt l i) ≠ headOf (ntAt l j) := fun e => by
        have e1 := congrArg Rq.t e
        have e2 := congrArg Rq.a e
        unfold headOf at e1 e2
        simp only at e1 e2
        rw [ntOld_iff] at h5
        omega
      rw [decide_eq_false hne]
      exact h5
/-- the oldest claim calls all whose first request is none -/
theorem calls_is {c : Cf} {who : Int} {l : List Nt} (h : notesOk c who l) {r : Rq} (hr : oldestN c who l = (r, true)) : callsN c who l ⟨0, 0, 0⟩ = (r.a, true) ∧ r.a ≠ who := by
  have h9 : callsN c who l ⟨0, 0, 0⟩ = (r.a, true) := by
    unfold callsN
    rw [hr]
    exact if_pos ⟨rfl, fun h => absurd rfl h.1⟩
  refine ⟨h9, ?_⟩
  rcases oldest_is h with ⟨h1, _⟩ | ⟨j, hj, h1, h3, h4⟩
  · rw [h1] at hr; cases (Prod.mk.inj hr).2
  · have er : headOf (ntAt l j) = r := (Prod.mk.inj (h1.symm.trans hr)).1
    rw [← er]
    have e1 := h.own hj h3
    have e2 := h.other hj h3
    unfold headOf
    simp only
    omega
theorem calls_none {c : Cf} {who : Int} {l : List Nt} (hr : (oldestN c who l).2 = false) (x : Rq) : callsN c who l x = (0, false) := by
  unfold callsN
  rw [hr]
  exact if_neg (fun h => by cases h.1)
/-- what is heard is notes that may be -/
theorem note_of_mail {c : Cf} {x : Ml} (h : mailOk c x) : noteB c x.fr (noteOf x) = true := h.2.2.2.2.2.2.2
theorem hear_cases (c : Cf) (who : Int) (l : List Nt) (x : Ml) : (hearN c who l x = ([], 1)) ∨ (hearN c who l x = (heardL l x, 0) ∧ notesOk c who l ∧ mailOk c x ∧ x.to = who) := by
  unfold hearN
  by_cases h : notesOk c who l ∧ mailOk c x ∧ x.to = who
  · rw [if_pos h]; exact Or.inr ⟨rfl, h⟩
  · rw [if_neg h]; exact Or.inl rfl
/-- a request, and whether there is one -/
def TellsQ (w : World) (x : Rq × Bool) (e : Ending) (w' : World) : Prop := e = .returned (.tuple #[rqV x.1, .bool x.2]) ∧ Below w.heap.size w w'
/-- a number, and whether there is one -/
def TellsI (w : World) (x : Int × Bool) (e : Ending) (w' : World) : Prop := e = .returned (.tuple #[.int .i64 x.1, .bool x.2]) ∧ Below w.heap.size w w'
end Go.Proofs.Ytbpmonbehibgdaa
