/- Layer 12's words: what an estimate, and what is kept, answer. No law is proved here. -/
import Derived.Test.YtbcmoepbegbnpaaWantMath
import Derived.Test.YtbcmoepbegbnpaaNumsPlain
namespace Go.Proofs.Ytbcmoepbegbnpaa
open Go.RowKit

/-- an estimate: how much, how often -/
def Told2 (w : World) (x : Nat × Nat) (e : Ending) (w' : World) : Prop := e = .returned (.tuple #[.int .i64 (x.1 : Nat), .int .i64 (x.2 : Nat)]) ∧ Below w.heap.size w w'
/-- numbers that a call answers -/
def GaveN (w : World) (l : List Int) (e : Ending) (w' : World) : Prop := ∃ A C, e = .returned (.slice A l.length C) ∧ Nums w' (.slice A l.length C) l ∧ Below w.heap.size w w'
/-- the same numbers? -/
def sameN (k l : List Int) : Bool := decide (k = l)
theorem sameN_self (l : List Int) : sameN l l = true := decide_eq_true rfl
theorem nums_ext {k l : List Int} (h : k.length = l.length) (h2 : ∀ i, i < k.length → k[i]?.getD 0 = l[i]?.getD 0) : k = l := by
  refine List.ext_getElem h fun i hi hj => ?_
  have := h2 i hi
  simpa [List.getElem?_eq_getElem hi, List.getElem?_eq_getElem hj] using this
end Go.Proofs.Ytbcmoepbegbnpaa
