/- A config by value: may it be. No function in it; no law is proved here. -/
import Derived.Test.YtkkhecdmjcffjaaKit
import Derived.WalkKit
import Derived.WalkLawsBesides
import Derived.LoopTactic
import Derived.IntWalk
namespace Go.Proofs.Ytkkhecdmjcffjaa
open Go.RowKit

/-- a config: how many, how many wait, asks, ticks, what there is at first, how much each may put in -/
structure Cf where
  n : Int
  q : Int
  r : Int
  p : Int
  k : Int
  c : Int
abbrev cfV (c : Cf) : Value := .agg #[.int .i64 c.n, .int .i64 c.q, .int .i64 c.r, .int .i64 c.p, .int .i64 c.k, .int .i64 c.c]
abbrev cfCells (c : Cf) : Array Value := #[.int .i64 c.n, .int .i64 c.q, .int .i64 c.r, .int .i64 c.p, .int .i64 c.k, .int .i64 c.c]

/-- a config may be -/
def cfOk (c : Cf) : Prop := 1 ≤ c.n ∧ c.n ≤ 16 ∧ 1 ≤ c.q ∧ c.q ≤ 8 ∧ 0 ≤ c.r ∧ c.r ≤ 8 ∧ 1 ≤ c.p ∧ c.p ≤ 16 ∧ 0 ≤ c.k ∧ 0 ≤ c.c ∧ c.k + c.n * c.c ≤ 1099511627776
instance (c : Cf) : Decidable (cfOk c) := by unfold cfOk; exact inferInstance
def cfB (c : Cf) : Bool := decide (cfOk c)
theorem cfB_no {c : Cf} (h : ¬ cfOk c) : cfB c = false := decide_eq_false h
theorem cfB_yes {c : Cf} (h : cfOk c) : cfB c = true := decide_eq_true h
theorem cfB_ok {c : Cf} (h : cfB c = true) : cfOk c := of_decide_eq_true h
theorem below_cf (w : World) (a : Obj) : Below w.heap.size w (w.alloc a) := below_box w a
theorem mul_step {k n c : Int} (h : k < n) (hc : 0 ≤ c) : k * c + c ≤ n * c := by
  have := Int.mul_le_mul_of_nonneg_right (show k + 1 ≤ n by omega) hc
  rw [Int.add_mul, Int.one_mul] at this
  exact this
theorem mul_succ' (k : Nat) (c : Int) : ((k + 1 : Nat) : Int) * c = (k : Int) * c + c := by
  rw [Int.natCast_add, Int.add_mul]; simp
theorem config_cells {wr : World} {g : Nat} {c : Cf} (h : Whole wr g 23 (cfCells c)) :
    wr.cell? ⟨g, 0, none⟩ = some (.int .i64 c.n) ∧ wr.cell? ⟨g, 1, none⟩ = some (.int .i64 c.q) ∧ wr.cell? ⟨g, 2, none⟩ = some (.int .i64 c.r) ∧ wr.cell? ⟨g, 3, none⟩ = some (.int .i64 c.p) ∧
    wr.cell? ⟨g, 4, none⟩ = some (.int .i64 c.k) ∧ wr.cell? ⟨g, 5, none⟩ = some (.int .i64 c.c) := ⟨h.cell 0, h.cell 1, h.cell 2, h.cell 3, h.cell 4, h.cell 5⟩
end Go.Proofs.Ytkkhecdmjcffjaa
