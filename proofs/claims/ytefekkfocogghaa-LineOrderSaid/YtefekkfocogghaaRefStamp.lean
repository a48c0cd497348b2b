/- The document's own, layer 3: Older, May. No law is proved here. -/
import Derived.Test.YtefekkfocogghaaStampWords
import Derived.WalkLawsBesides
import Derived.Deep.QuietTactic
import Derived.BigQuiet
namespace Go.Proofs.Ytefekkfocogghaa
open Go.RowKit

set_option maxHeartbeats 400000 in
theorem refolder_calls (t a u b : Int) (w : World) :
    Calls Try.prog 15 #[stampV t a, stampV u b] w (Says w (olderB t a u b)) := by
  by_cases h1 : t < u
  · rw [olderB_yes (Or.inl h1)]
    go_enter Try.func15, Try.ntmps15
    go_wp2_with fail
    go_ret
    exact ⟨by simp_all, below_two _ _ _⟩
  · by_cases h2 : t = u
    · subst h2
      by_cases h3 : a < b
      · rw [olderB_yes (Or.inr ⟨rfl, h3⟩)]
        go_enter Try.func15, Try.ntmps15
        go_wp2_with fail
        go_ret
        exact ⟨by simp_all, below_two _ _ _⟩
      · rw [olderB_no (by omega)]
        go_enter Try.func15, Try.ntmps15
        go_wp2_with fail
        go_ret
        exact ⟨by simp_all, below_two _ _ _⟩
    · rw [olderB_no (by omega)]
      have hn : (t == u) = false := beq_eq_false_iff_ne.2 h2
      go_enter Try.func15, Try.ntmps15
      go_wp2_with fail
      go_ret
      exact ⟨by simp_all, below_two _ _ _⟩

set_option maxHeartbeats 400000 in
theorem refstampmay_calls (t a n : Int) (w : World) :
    Calls Try.prog 21 #[stampV t a, .int .i64 n] w (Says w (mayB t a n)) := by
  by_cases h : 1 ≤ t ∧ t ≤ 1125899906842624 ∧ 0 ≤ a ∧ a < n
  · rw [mayB_yes h]
    obtain ⟨h1, h2, h3, h4⟩ := h
    have h0 : 0 < t := by omega
    go_enter Try.func21, Try.ntmps21
    go_wp2_with fail
    go_ret
    exact ⟨by simp_all, below_box _ _⟩
  · rw [mayB_no h]
    by_cases h1 : 0 < t
    · by_cases h2 : t ≤ 1125899906842624
      · by_cases h3 : 0 ≤ a
        · have h4 : ¬ a < n := by omega
          clear h
          go_enter Try.func21, Try.ntmps21
          go_wp2_with fail
          go_ret
          exact ⟨by simp_all, below_box _ _⟩
        · clear h
          go_enter Try.func21, Try.ntmps21
          go_wp2_with fail
          go_ret
          exact ⟨by simp_all, below_box _ _⟩
      · clear h
        go_enter Try.func21, Try.ntmps21
        go_wp2_with fail
        go_ret
        exact ⟨by simp_all, below_box _ _⟩
    · clear h
      go_enter Try.func21, Try.ntmps21
      go_wp2_with fail
      go_ret
      exact ⟨by simp_all, below_box _ _⟩

end Go.Proofs.Ytefekkfocogghaa
