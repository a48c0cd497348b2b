/- Stamps by value: the walks of Older, May, each by what it answers. No law is proved here. -/
import Derived.Test.YtefekkfocogghaaStampWords
import Derived.Test.YtefekkfocogghaaRefStamp
import Derived.WalkLawsBesides
import Derived.Deep.QuietTactic
import Derived.BigQuiet
namespace Go.Proofs.Ytefekkfocogghaa
open Go.RowKit

set_option maxHeartbeats 400000 in
theorem before_calls (t a u b : Int) (w : World) :
    Calls Try.prog 24 #[stampV t a, stampV u b] w (Says w (olderB t a u b)) := by
  by_cases h1 : t = u
  · subst h1
    by_cases h2 : a < b
    · rw [olderB_yes (Or.inr ⟨rfl, h2⟩)]
      go_enter Try.func24, Try.ntmps24
      go_wp2_with fail
      go_ret
      exact ⟨by simp_all, below_two _ _ _⟩
    · rw [olderB_no (by omega)]
      go_enter Try.func24, Try.ntmps24
      go_wp2_with fail
      go_ret
      exact ⟨by simp_all, below_two _ _ _⟩
  · by_cases h2 : t < u
    · rw [olderB_yes (Or.inl h2)]
      have hn : (t != u) = true := bne_iff_ne.2 h1
      go_enter Try.func24, Try.ntmps24
      go_wp2_with fail
      go_ret
      exact ⟨by simp_all, below_two _ _ _⟩
    · rw [olderB_no (by omega)]
      have hn : (t != u) = true := bne_iff_ne.2 h1
      go_enter Try.func24, Try.ntmps24
      go_wp2_with fail
      go_ret
      exact ⟨by simp_all, below_two _ _ _⟩

set_option maxHeartbeats 400000 in
theorem older_calls (t a u b : Int) (w : World) :
    Calls Try.prog 20 #[stampV t a, stampV u b] w (Says w (olderB t a u b)) := by
  go_enter Try.func20, Try.ntmps20
  go_wp2_with fail
  refine (before_calls t a u b _).mono ?_
  rintro e w' ⟨rfl, hb⟩
  have Hb := Lib.hid ((below_two w _ _).trans (hb.mono (below_two w _ _).size)); clear hb
  go_wp2_with fail
  go_ret
  exact ⟨rfl, Hb.out⟩

set_option maxHeartbeats 400000 in
theorem stampmay_calls (t a n : Int) (w : World) :
    Calls Try.prog 19 #[stampV t a, .int .i64 n] w (Says w (mayB t a n)) := by
  by_cases h : 1 ≤ t ∧ t ≤ 1125899906842624 ∧ 0 ≤ a ∧ a < n
  · rw [mayB_yes h]
    obtain ⟨h1, h2, h3, h4⟩ := h
    go_enter Try.func19, Try.ntmps19
    go_wp2_with fail
    go_ret
    exact ⟨by simp_all, below_box _ _⟩
  · rw [mayB_no h]
    by_cases h1 : 1 ≤ t
    · by_cases h2 : t ≤ 1125899906842624
      · by_cases h3 : 0 ≤ a
        · have h4 : ¬ a < n := by omega
          clear h
          go_enter Try.func19, Try.ntmps19
          go_wp2_with fail
          go_ret
          exact ⟨by simp_all, below_box _ _⟩
        · clear h
          go_enter Try.func19, Try.ntmps19
          go_wp2_with fail
          go_ret
          exact ⟨by simp_all, below_box _ _⟩
      · clear h
        go_enter Try.func19, Try.ntmps19
        go_wp2_with fail
        go_ret
        exact ⟨by simp_all, below_box _ _⟩
    · clear h
      go_enter Try.func19, Try.ntmps19
      go_wp2_with fail
      go_ret
      exact ⟨by simp_all, below_box _ _⟩

/-- two stamps, by ==: their fields -/
theorem run_eql_stamp (w : World) (t a u b : Int) : (binOp .eql 26 (stampV t a) (stampV u b)).run Try.prog w = .ok (.bool ((t == u) && (a == b))) w := by
  by_cases h1 : t = u
  · subst h1
    by_cases h3 : a = b
    · subst h3; simp [go_sem, Try.underlying26]
    · have h4 : (a == b) = false := beq_eq_false_iff_ne.2 h3
      simp [go_sem, Try.underlying26, h4]
  · have h2 : (t == u) = false := beq_eq_false_iff_ne.2 h1
    simp [go_sem, Try.underlying26, h2]
/-- two stamps, by != -/
theorem run_neq_stamp (w : World) (t a u b : Int) : (binOp .neq 26 (stampV t a) (stampV u b)).run Try.prog w = .ok (.bool (!((t == u) && (a == b)))) w := by
  by_cases h1 : t = u
  · subst h1
    by_cases h3 : a = b
    · subst h3; simp [go_sem, Try.underlying26]
    · have h4 : (a == b) = false := beq_eq_false_iff_ne.2 h3
      simp [go_sem, Try.underlying26, h4]
  · have h2 : (t == u) = false := beq_eq_false_iff_ne.2 h1
    simp [go_sem, Try.underlying26, h2]
end Go.Proofs.Ytefekkfocogghaa
