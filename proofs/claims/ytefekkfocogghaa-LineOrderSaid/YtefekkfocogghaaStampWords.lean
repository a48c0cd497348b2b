/- Stamps by value: words. No function in it; no law is proved here. -/
import Derived.Test.YtefekkfocogghaaKit
import Derived.WalkLawsBesides
import Derived.Deep.QuietTactic
import Derived.BigQuiet
namespace Go.Proofs.Ytefekkfocogghaa
open Go.RowKit

/-- a stamp: its time, and who told it -/
abbrev stampV (t w : Int) : Value := .agg #[.int .i64 t, .int .i64 w]

/-- one stamp is older than another one -/
def olderB (t w u v : Int) : Bool := decide (t < u ∨ (t = u ∧ w < v))
/-- a stamp may be, among n -/
def mayB (t w n : Int) : Bool := decide (1 ≤ t ∧ t ≤ 1125899906842624 ∧ 0 ≤ w ∧ w < n)
theorem olderB_yes {t w u v : Int} (h : t < u ∨ (t = u ∧ w < v)) : olderB t w u v = true := by simpa [olderB] using h
theorem olderB_no {t w u v : Int} (h : ¬ (t < u ∨ (t = u ∧ w < v))) : olderB t w u v = false := by simpa [olderB] using h
theorem olderB_iff {t w u v : Int} : olderB t w u v = true ↔ (t < u ∨ (t = u ∧ w < v)) := by simp [olderB]
theorem mayB_yes {t w n : Int} (h : 1 ≤ t ∧ t ≤ 1125899906842624 ∧ 0 ≤ w ∧ w < n) : mayB t w n = true := by simpa [mayB] using h
theorem mayB_no {t w n : Int} (h : ¬ (1 ≤ t ∧ t ≤ 1125899906842624 ∧ 0 ≤ w ∧ w < n)) : mayB t w n = false := by unfold mayB; exact decide_eq_false h

end Go.Proofs.Ytefekkfocogghaa
