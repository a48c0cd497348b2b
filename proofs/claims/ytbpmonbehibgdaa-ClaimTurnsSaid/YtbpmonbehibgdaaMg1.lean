/- Merged texts: Kit, CfWords, Within. No law is proved here. -/
import Derived.Test.YtbpmonbehibgdaaLaw
import Derived.Lib.Hide
import Derived.Deep.Draws
import Derived.WalkKit
import Derived.WalkLawsBesides
import Derived.LoopTactic
import Derived.IntWalk
/- Small words for every layer's walks: what a call that answers one bool says, and how what was there is kept from call to call. -/
namespace Go.Proofs.Ytbpmonbehibgdaa
open Go.RowKit

/-- what comes back is this bool; what was there has not turned -/
def Says (w : World) (b : Bool) (e : Ending) (w' : World) : Prop := e = .returned (.bool b) ∧ Below w.heap.size w w'

theorem below_box (w : World) (a : Obj) : Below w.heap.size w (w.alloc a) := (Below.refl _ _).alloc (Nat.le_refl _) _
theorem below_two (w : World) (a b : Obj) : Below w.heap.size w ((w.alloc a).alloc b) := ((Below.refl _ _).alloc (Nat.le_refl _) _).alloc (by simp) _
theorem below_next {B : Nat} {w W W' : World} (h : Below B w W) (hB : B ≤ W.heap.size) (h' : Below W.heap.size W W') : Below B w W' := h.trans (h'.mono hB)
theorem held_next {w W W' : World} (h : Below w.heap.size w W) (h' : Below W.heap.size W W') : Below w.heap.size w W' := h.trans (h'.mono h.size)

/-- A BLOCK that is known whole, no cell of it frozen. -/
def Whole (w : World) (g : Nat) (t : TypeId) (cs : Array Value) : Prop := w.heap[g]? = some (.cells cs t (0, 0))
section
variable {w w' : World} {g : Nat} {t : TypeId} {cs : Array Value}
theorem Whole.lt (h : Whole w g t cs) : g < w.heap.size := (Array.getElem?_eq_some_iff.1 h).1
theorem Whole.cell (h : Whole w g t cs) (i : Nat) : w.cell? ⟨g, i, none⟩ = cs[i]? := cell_of_row w g i cs t (0, 0) h
theorem Whole.free (h : Whole w g t cs) (i : Nat) : w.frozen? ⟨g, i, none⟩ = false := by
  unfold Whole at h
  simp [World.frozen?, h]
theorem Whole.made (w : World) (t : TypeId) (cs : Array Value) : Whole (w.alloc (.cells cs t)) w.heap.size t cs := heap_alloc_new w _
theorem Whole.made2 (w : World) (a : Obj) (t : TypeId) (cs : Array Value) : Whole ((w.alloc a).alloc (.cells cs t)) (w.heap.size + 1) t cs := by
  have := Whole.made (w.alloc a) t cs
  rwa [World.size_alloc] at this
theorem Whole.madeAt (w : World) (t : TypeId) (cs : Array Value) (g : Nat) (hg : g = w.heap.size) : Whole (w.alloc (.cells cs t)) g t cs := by subst hg; exact Whole.made w t cs
theorem Whole.drew (h : Whole w g t cs) : Whole w.drew g t cs := h
/-- the same, the world read off another fact -/
theorem whole_at {B : Nat} {w0 : World} (_ : Below B w0 w) {g : Nat} {t : TypeId} {cs : Array Value} (h : Whole w g t cs) : Whole w g t cs := h
theorem with_whole {B : Nat} {w0 : World} {p : Prop} (_ : Below B w0 w) {g : Nat} {t : TypeId} {cs : Array Value} (h : Whole w g t cs) (k : Whole w g t cs → p) : p := k h
theorem Whole.drewN (h : Whole w g t cs) (n : Nat) : Whole (w.drewN n) g t cs := h
theorem Whole.alloc (h : Whole w g t cs) (o : Obj) : Whole (w.alloc o) g t cs := (Below.heap_alloc w o g h.lt).trans h
theorem Whole.later {B : Nat} (h : Whole w g t cs) (hb : Below B w w') (hg : g < B) : Whole w' g t cs := (hb.block g hg).trans h
theorem Whole.set (h : Whole w g t cs) (i : Nat) (u : Value) : Whole (w.setCell ⟨g, i, none⟩ u) g t (cs.setIfInBounds i u) := by
  unfold Whole at h ⊢
  simp [World.setCell, Array.getElem?_modify, h]
theorem Whole.other (h : Whole w g t cs) {p : Addr} (hp : g ≠ p.block) (u : Value) : Whole (w.setCell p u) g t cs := (Below.heap_setCell w p u g hp).trans h
end
end Go.Proofs.Ytbpmonbehibgdaa

/- A config by value: may it be. No function in it; no law is proved here. -/
namespace Go.Proofs.Ytbpmonbehibgdaa
open Go.RowKit

/-- a config: how many, how many wait, asks, ticks, what there is at first, how much each may put in -/
structure Cf where
  n : Int
  q : Int
  r : Int
  p : Int
  k : Int
  c : Int
abbrev cfV (c : Cf) : Value := .agg #[.int .i64 c.n, .int .i64 c.q, .int .i64 c.r, .int .i64 c.p, .int .i64 c.k, .int .i64 c.c]
abbrev cfCells (c : Cf) : Array Value := #[.int .i64 c.n, .int .i64 c.q, .int .i64 c.r, .int .i64 c.p, .int .i64 c.k, .int .i64 c.c]

/-- a config may be -/
def cfOk (c : Cf) : Prop := 1 ≤ c.n ∧ c.n ≤ 16 ∧ 1 ≤ c.q ∧ c.q ≤ 8 ∧ 0 ≤ c.r ∧ c.r ≤ 8 ∧ 1 ≤ c.p ∧ c.p ≤ 16 ∧ 0 ≤ c.k ∧ 0 ≤ c.c ∧ c.k + c.n * c.c ≤ 1099511627776
instance (c : Cf) : Decidable (cfOk c) := by unfold cfOk; exact inferInstance
def cfB (c : Cf) : Bool := decide (cfOk c)
theorem cfB_no {c : Cf} (h : ¬ cfOk c) : cfB c = false := decide_eq_false h
theorem cfB_yes {c : Cf} (h : cfOk c) : cfB c = true := decide_eq_true h
theorem cfB_ok {c : Cf} (h : cfB c = true) : cfOk c := of_decide_eq_true h
theorem below_cf (w : World) (a : Obj) : Below w.heap.size w (w.alloc a) := below_box w a
theorem mul_step {k n c : Int} (h : k < n) (hc : 0 ≤ c) : k * c + c ≤ n * c := by
  have := Int.mul_le_mul_of_nonneg_right (show k + 1 ≤ n by omega) hc
  rw [Int.add_mul, Int.one_mul] at this
  exact this
theorem mul_succ' (k : Nat) (c : Int) : ((k + 1 : Nat) : Int) * c = (k : Int) * c + c := by
  rw [Int.natCast_add, Int.add_mul]; simp
theorem config_cells {wr : World} {g : Nat} {c : Cf} (h : Whole wr g 23 (cfCells c)) :
    wr.cell? ⟨g, 0, none⟩ = some (.int .i64 c.n) ∧ wr.cell? ⟨g, 1, none⟩ = some (.int .i64 c.q) ∧ wr.cell? ⟨g, 2, none⟩ = some (.int .i64 c.r) ∧ wr.cell? ⟨g, 3, none⟩ = some (.int .i64 c.p) ∧
    wr.cell? ⟨g, 4, none⟩ = some (.int .i64 c.k) ∧ wr.cell? ⟨g, 5, none⟩ = some (.int .i64 c.c) := ⟨h.cell 0, h.cell 1, h.cell 2, h.cell 3, h.cell 4, h.cell 5⟩
end Go.Proofs.Ytbpmonbehibgdaa

/- A number between two bounds: words. No function in it; no law is proved here. -/
namespace Go.Proofs.Ytbpmonbehibgdaa
open Go.RowKit

/-- from low to high -/
def withinB (v lo hi : Int) : Bool := decide (lo ≤ v ∧ v ≤ hi)
theorem withinB_yes {v lo hi : Int} (h : lo ≤ v ∧ v ≤ hi) : withinB v lo hi = true := decide_eq_true h
theorem withinB_no {v lo hi : Int} (h : ¬ (lo ≤ v ∧ v ≤ hi)) : withinB v lo hi = false := decide_eq_false h
end Go.Proofs.Ytbpmonbehibgdaa
