/- Stamps by value: the walks of Older, May, Tick and of the document's own, each by what it answers. -/
import Derived.Test.YtblfjekdejndfaaKit
import Derived.WalkLawsBesides
import Derived.Deep.QuietTactic
import Derived.BigQuiet
namespace Go.Proofs.Ytblfjekdejndfaa
open Go.RowKit

/-- a stamp: its time, and who told it -/
abbrev stampV (t w : Int) : Value := .agg #[.int .i64 t, .int .i64 w]

/-- one stamp is older than another one -/
def olderB (t w u v : Int) : Bool := decide (t < u ∨ (t = u ∧ w < v))
/-- a stamp may be, among n -/
def mayB (t w n : Int) : Bool := decide (1 ≤ t ∧ t ≤ 1125899906842624 ∧ 0 ≤ w ∧ w < n)
theorem olderB_yes {t w u v : Int} (h : t < u ∨ (t = u ∧ w < v)) : olderB t w u v = true := by simpa [olderB] using h
theorem olderB_no {t w u v : Int} (h : ¬ (t < u ∨ (t = u ∧ w < v))) : olderB t w u v = false := by simpa [olderB] using h
theorem olderB_iff {t w u v : Int} : olderB t w u v = true ↔ (t < u ∨ (t = u ∧ w < v)) := by simp [olderB]
theorem mayB_yes {t w n : Int} (h : 1 ≤ t ∧ t ≤ 1125899906842624 ∧ 0 ≤ w ∧ w < n) : mayB t w n = true := by simpa [mayB] using h
theorem mayB_no {t w n : Int} (h : ¬ (1 ≤ t ∧ t ≤ 1125899906842624 ∧ 0 ≤ w ∧ w < n)) : mayB t w n = false := by unfold mayB; exact decide_eq_false h

set_option maxHeartbeats 400000 in
theorem before_calls (t a u b : Int) (w : World) :
    Calls Try.prog 16 #[stampV t a, stampV u b] w (Says w (olderB t a u b)) := by
  by_cases h1 : t = u
  · subst h1
    by_cases h2 : a < b
    · rw [olderB_yes (Or.inr ⟨rfl, h2⟩)]
      go_enter Try.func16, Try.ntmps16
      go_wp2_with fail
      go_ret
      exact ⟨by simp_all, below_two _ _ _⟩
    · rw [olderB_no (by omega)]
      go_enter Try.func16, Try.ntmps16
      go_wp2_with fail
      go_ret
      exact ⟨by simp_all, below_two _ _ _⟩
  · by_cases h2 : t < u
    · rw [olderB_yes (Or.inl h2)]
      have hn : (t != u) = true := bne_iff_ne.2 h1
      go_enter Try.func16, Try.ntmps16
      go_wp2_with fail
      go_ret
      exact ⟨by simp_all, below_two _ _ _⟩
    · rw [olderB_no (by omega)]
      have hn : (t != u) = true := bne_iff_ne.2 h1
      go_enter Try.func16, Try.ntmps16
      go_wp2_with fail
      go_ret
      exact ⟨by simp_all, below_two _ _ _⟩

set_option maxHeartbeats 400000 in
theorem older_calls (t a u b : Int) (w : World) :
    Calls Try.prog 8 #[stampV t a, stampV u b] w (Says w (olderB t a u b)) := by
  go_enter Try.func8, Try.ntmps8
  go_wp2_with fail
  refine (before_calls t a u b _).mono ?_
  rintro e w' ⟨rfl, hb⟩
  have Hb := Lib.hid ((below_two w _ _).trans (hb.mono (below_two w _ _).size)); clear hb
  go_wp2_with fail
  go_ret
  exact ⟨rfl, Hb.out⟩

set_option maxHeartbeats 400000 in
theorem refolder_calls (t a u b : Int) (w : World) :
    Calls Try.prog 9 #[stampV t a, stampV u b] w (Says w (olderB t a u b)) := by
  by_cases h1 : t < u
  · rw [olderB_yes (Or.inl h1)]
    go_enter Try.func9, Try.ntmps9
    go_wp2_with fail
    go_ret
    exact ⟨by simp_all, below_two _ _ _⟩
  · by_cases h2 : t = u
    · subst h2
      by_cases h3 : a < b
      · rw [olderB_yes (Or.inr ⟨rfl, h3⟩)]
        go_enter Try.func9, Try.ntmps9
        go_wp2_with fail
        go_ret
        exact ⟨by simp_all, below_two _ _ _⟩
      · rw [olderB_no (by omega)]
        go_enter Try.func9, Try.ntmps9
        go_wp2_with fail
        go_ret
        exact ⟨by simp_all, below_two _ _ _⟩
    · rw [olderB_no (by omega)]
      have hn : (t == u) = false := beq_eq_false_iff_ne.2 h2
      go_enter Try.func9, Try.ntmps9
      go_wp2_with fail
      go_ret
      exact ⟨by simp_all, below_two _ _ _⟩

set_option maxHeartbeats 400000 in
theorem may_calls (t a n : Int) (w : World) :
    Calls Try.prog 10 #[stampV t a, .int .i64 n] w (Says w (mayB t a n)) := by
  by_cases h : 1 ≤ t ∧ t ≤ 1125899906842624 ∧ 0 ≤ a ∧ a < n
  · rw [mayB_yes h]
    obtain ⟨h1, h2, h3, h4⟩ := h
    go_enter Try.func10, Try.ntmps10
    go_wp2_with fail
    go_ret
    exact ⟨by simp_all, below_box _ _⟩
  · rw [mayB_no h]
    by_cases h1 : 1 ≤ t
    · by_cases h2 : t ≤ 1125899906842624
      · by_cases h3 : 0 ≤ a
        · have h4 : ¬ a < n := by omega
          clear h
          go_enter Try.func10, Try.ntmps10
          go_wp2_with fail
          go_ret
          exact ⟨by simp_all, below_box _ _⟩
        · clear h
          go_enter Try.func10, Try.ntmps10
          go_wp2_with fail
          go_ret
          exact ⟨by simp_all, below_box _ _⟩
      · clear h
        go_enter Try.func10, Try.ntmps10
        go_wp2_with fail
        go_ret
        exact ⟨by simp_all, below_box _ _⟩
    · clear h
      go_enter Try.func10, Try.ntmps10
      go_wp2_with fail
      go_ret
      exact ⟨by simp_all, below_box _ _⟩

set_option maxHeartbeats 400000 in
theorem refmay_calls (t a n : Int) (w : World) :
    Calls Try.prog 11 #[stampV t a, .int .i64 n] w (Says w (mayB t a n)) := by
  by_cases h : 1 ≤ t ∧ t ≤ 1125899906842624 ∧ 0 ≤ a ∧ a < n
  · rw [mayB_yes h]
    obtain ⟨h1, h2, h3, h4⟩ := h
    have h0 : 0 < t := by omega
    go_enter Try.func11, Try.ntmps11
    go_wp2_with fail
    go_ret
    exact ⟨by simp_all, below_box _ _⟩
  · rw [mayB_no h]
    by_cases h1 : 0 < t
    · by_cases h2 : t ≤ 1125899906842624
      · by_cases h3 : 0 ≤ a
        · have h4 : ¬ a < n := by omega
          clear h
          go_enter Try.func11, Try.ntmps11
          go_wp2_with fail
          go_ret
          exact ⟨by simp_all, below_box _ _⟩
        · clear h
          go_enter Try.func11, Try.ntmps11
          go_wp2_with fail
          go_ret
          exact ⟨by simp_all, below_box _ _⟩
      · clear h
        go_enter Try.func11, Try.ntmps11
        go_wp2_with fail
        go_ret
        exact ⟨by simp_all, below_box _ _⟩
    · clear h
      go_enter Try.func11, Try.ntmps11
      go_wp2_with fail
      go_ret
      exact ⟨by simp_all, below_box _ _⟩

/-- two stamps, by ==: their fields -/
theorem run_eql_stamp (w : World) (t a u b : Int) : (binOp .eql 23 (stampV t a) (stampV u b)).run Try.prog w = .ok (.bool ((t == u) && (a == b))) w := by
  by_cases h1 : t = u
  · subst h1
    by_cases h3 : a = b
    · subst h3; simp [go_sem, Try.underlying23]
    · have h4 : (a == b) = false := beq_eq_false_iff_ne.2 h3
      simp [go_sem, Try.underlying23, h4]
  · have h2 : (t == u) = false := beq_eq_false_iff_ne.2 h1
    simp [go_sem, Try.underlying23, h2]
/-- two stamps, by != -/
theorem run_neq_stamp (w : World) (t a u b : Int) : (binOp .neq 23 (stampV t a) (stampV u b)).run Try.prog w = .ok (.bool (!((t == u) && (a == b)))) w := by
  by_cases h1 : t = u
  · subst h1
    by_cases h3 : a = b
    · subst h3; simp [go_sem, Try.underlying23]
    · have h4 : (a == b) = false := beq_eq_false_iff_ne.2 h3
      simp [go_sem, Try.underlying23, h4]
  · have h2 : (t == u) = false := beq_eq_false_iff_ne.2 h1
    simp [go_sem, Try.underlying23, h2]
end Go.Proofs.Ytblfjekdejndfaa
