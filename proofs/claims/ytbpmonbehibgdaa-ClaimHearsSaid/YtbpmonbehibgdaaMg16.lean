/- Merged texts: StampBase, RefClaimNeq. No law is proved here. -/
import Derived.Test.YtbpmonbehibgdaaMg11
import Derived.Test.YtbpmonbehibgdaaMg15
import Derived.WalkLawsBesides
import Derived.Deep.QuietTactic
import Derived.BigQuiet
import Derived.Test.YtbpmonbehibgdaaClaimWords
import Derived.WalkKit
import Derived.ProofKit
import Derived.OpenShut
import Derived.WalkSpells
import Derived.Lib.Hide
import Derived.Deep.Draws
import Derived.Deep.Slices
import Derived.Deep.Fields
import Derived.ChangeSame
import Derived.RegionTactic
import Derived.LoopTactic
import Derived.IntWalk
import Derived.Deep.DeepCutAuto
/- Stamps by value: the walks of Older, May, each by what it answers. No law is proved here. -/
namespace Go.Proofs.Ytbpmonbehibgdaa
open Go.RowKit

set_option maxHeartbeats 400000 in
theorem before_calls (t a u b : Int) (w : World) :
    Calls Try.prog 47 #[stampV t a, stampV u b] w (Says w (olderB t a u b)) := by
  by_cases h1 : t = u
  · subst h1
    by_cases h2 : a < b
    · rw [olderB_yes (Or.inr ⟨rfl, h2⟩)]
      go_enter Try.func47, Try.ntmps47
      go_wp2_with fail
      go_ret
      exact ⟨by simp_all, below_two _ _ _⟩
    · rw [olderB_no (by omega)]
      go_enter Try.func47, Try.ntmps47
      go_wp2_with fail
      go_ret
      exact ⟨by simp_all, below_two _ _ _⟩
  · by_cases h2 : t < u
    · rw [olderB_yes (Or.inl h2)]
      have hn : (t != u) = true := bne_iff_ne.2 h1
      go_enter Try.func47, Try.ntmps47
      go_wp2_with fail
      go_ret
      exact ⟨by simp_all, below_two _ _ _⟩
    · rw [olderB_no (by omega)]
      have hn : (t != u) = true := bne_iff_ne.2 h1
      go_enter Try.func47, Try.ntmps47
      go_wp2_with fail
      go_ret
      exact ⟨by simp_all, below_two _ _ _⟩

set_option maxHeartbeats 400000 in
theorem older_calls (t a u b : Int) (w : World) :
    Calls Try.prog 34 #[stampV t a, stampV u b] w (Says w (olderB t a u b)) := by
  go_enter Try.func34, Try.ntmps34
  go_wp2_with fail
  refine (before_calls t a u b _).mono ?_
  rintro e w' ⟨rfl, hb⟩
  have Hb := Lib.hid ((below_two w _ _).trans (hb.mono (below_two w _ _).size)); clear hb
  go_wp2_with fail
  go_ret
  exact ⟨rfl, Hb.out⟩

set_option maxHeartbeats 400000 in
theorem stampmay_calls (t a n : Int) (w : World) :
    Calls Try.prog 48 #[stampV t a, .int .i64 n] w (Says w (mayB t a n)) := by
  by_cases h : 1 ≤ t ∧ t ≤ 1125899906842624 ∧ 0 ≤ a ∧ a < n
  · rw [mayB_yes h]
    obtain ⟨h1, h2, h3, h4⟩ := h
    go_enter Try.func48, Try.ntmps48
    go_wp2_with fail
    go_ret
    exact ⟨by simp_all, below_box _ _⟩
  · rw [mayB_no h]
    by_cases h1 : 1 ≤ t
    · by_cases h2 : t ≤ 1125899906842624
      · by_cases h3 : 0 ≤ a
        · have h4 : ¬ a < n := by omega
          clear h
          go_enter Try.func48, Try.ntmps48
          go_wp2_with fail
          go_ret
          exact ⟨by simp_all, below_box _ _⟩
        · clear h
          go_enter Try.func48, Try.ntmps48
          go_wp2_with fail
          go_ret
          exact ⟨by simp_all, below_box _ _⟩
      · clear h
        go_enter Try.func48, Try.ntmps48
        go_wp2_with fail
        go_ret
        exact ⟨by simp_all, below_box _ _⟩
    · clear h
      go_enter Try.func48, Try.ntmps48
      go_wp2_with fail
      go_ret
      exact ⟨by simp_all, below_box _ _⟩

/-- two stamps, by ==: their fields -/
theorem run_eql_stamp (w : World) (t a u b : Int) : (binOp .eql 27 (stampV t a) (stampV u b)).run Try.prog w = .ok (.bool ((t == u) && (a == b))) w := by
  by_cases h1 : t = u
  · subst h1
    by_cases h3 : a = b
    · subst h3; simp [go_sem, Try.underlying27]
    · have h4 : (a == b) = false := beq_eq_false_iff_ne.2 h3
      simp [go_sem, Try.underlying27, h4]
  · have h2 : (t == u) = false := beq_eq_false_iff_ne.2 h1
    simp [go_sem, Try.underlying27, h2]
/-- two stamps, by != -/
theorem run_neq_stamp (w : World) (t a u b : Int) : (binOp .neq 27 (stampV t a) (stampV u b)).run Try.prog w = .ok (.bool (!((t == u) && (a == b)))) w := by
  by_cases h1 : t = u
  · subst h1
    by_cases h3 : a = b
    · subst h3; simp [go_sem, Try.underlying27]
    · have h4 : (a == b) = false := beq_eq_false_iff_ne.2 h3
      simp [go_sem, Try.underlying27, h4]
  · have h2 : (t == u) = false := beq_eq_false_iff_ne.2 h1
    simp [go_sem, Try.underlying27, h2]
end Go.Proofs.Ytbpmonbehibgdaa

/- Two notes, by != : their fields. No law is proved here. -/
namespace Go.Proofs.Ytbpmonbehibgdaa
open Go.RowKit

set_option maxHeartbeats 4000000 in
theorem run_neq_nt (w : World) (x y : Nt) : (binOp .neq 47 (ntV x) (ntV y)).run Try.prog w = .ok (.bool (!decide ((x : Nt) = y))) w := by
  obtain ⟨x0, x1, x2, x3, x4, x5, x6⟩ := x
  obtain ⟨y0, y1, y2, y3, y4, y5, y6⟩ := y
  by_cases h0 : x0 = y0
  · subst h0
    by_cases h1 : x1 = y1
    · subst h1
      by_cases h2 : x2 = y2
      · subst h2
        by_cases h3 : x3 = y3
        · subst h3
          by_cases h4 : x4 = y4
          · subst h4
            by_cases h5 : x5 = y5
            · subst h5
              by_cases h6 : x6 = y6
              · subst h6
                simp [go_sem, Try.underlying47, Try.underlying29, Try.underlying27, Try.underlying31]
              · have g6 : (x6 == y6) = false := beq_eq_false_iff_ne.2 h6
                simp [go_sem, Try.underlying47, Try.underlying29, Try.underlying27, Try.underlying31, h6]
            · have g5 : (x5 == y5) = false := beq_eq_false_iff_ne.2 h5
              simp [go_sem, Try.underlying47, Try.underlying29, Try.underlying27, Try.underlying31, h5]
          · have g4 : (x4 == y4) = false := beq_eq_false_iff_ne.2 h4
            simp [go_sem, Try.underlying47, Try.underlying29, Try.underlying27, Try.underlying31, h4]
        · have g3 : (x3 == y3) = false := beq_eq_false_iff_ne.2 h3
          simp [go_sem, Try.underlying47, Try.underlying29, Try.underlying27, Try.underlying31, h3]
      · have g2 : (x2 == y2) = false := beq_eq_false_iff_ne.2 h2
        simp [go_sem, Try.underlying47, Try.underlying29, Try.underlying27, Try.underlying31, h2]
    · have g1 : (x1 == y1) = false := beq_eq_false_iff_ne.2 h1
      simp [go_sem, Try.underlying47, Try.underlying29, Try.underlying27, Try.underlying31, h1]
  · have g0 : (x0 == y0) = false := beq_eq_false_iff_ne.2 h0
    simp [go_sem, Try.underlying47, Try.underlying29, Try.underlying27, Try.underlying31, h0]
end Go.Proofs.Ytbpmonbehibgdaa
