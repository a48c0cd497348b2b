/- A number between two bounds: words. No function in it; no law is proved here. -/
import Derived.Test.YtkkhecdmjcffjaaKit
import Derived.WalkKit
import Derived.WalkLawsBesides
import Derived.LoopTactic
import Derived.IntWalk
namespace Go.Proofs.Ytkkhecdmjcffjaa
open Go.RowKit

/-- from low to high -/
def withinB (v lo hi : Int) : Bool := decide (lo ≤ v ∧ v ≤ hi)
theorem withinB_yes {v lo hi : Int} (h : lo ≤ v ∧ v ≤ hi) : withinB v lo hi = true := decide_eq_true h
theorem withinB_no {v lo hi : Int} (h : ¬ (lo ≤ v ∧ v ≤ hi)) : withinB v lo hi = false := decide_eq_false h
end Go.Proofs.Ytkkhecdmjcffjaa
