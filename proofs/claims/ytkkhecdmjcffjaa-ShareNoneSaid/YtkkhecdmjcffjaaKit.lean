/- Small words for every layer's walks: what a call that answers one bool says, and how what was there is kept from call to call. -/
import Derived.Test.YtkkhecdmjcffjaaLaw
import Derived.Lib.Hide
import Derived.Deep.Draws
namespace Go.Proofs.Ytkkhecdmjcffjaa
open Go.RowKit

/-- what comes back is this bool; what was there has not turned -/
def Says (w : World) (b : Bool) (e : Ending) (w' : World) : Prop := e = .returned (.bool b) ∧ Below w.heap.size w w'

theorem below_box (w : World) (a : Obj) : Below w.heap.size w (w.alloc a) := (Below.refl _ _).alloc (Nat.le_refl _) _
theorem below_two (w : World) (a b : Obj) : Below w.heap.size w ((w.alloc a).alloc b) := ((Below.refl _ _).alloc (Nat.le_refl _) _).alloc (by simp) _
theorem below_next {B : Nat} {w W W' : World} (h : Below B w W) (hB : B ≤ W.heap.size) (h' : Below W.heap.size W W') : Below B w W' := h.trans (h'.mono hB)
theorem held_next {w W W' : World} (h : Below w.heap.size w W) (h' : Below W.heap.size W W') : Below w.heap.size w W' := h.trans (h'.mono h.size)

/-- A BLOCK that is known whole, no cell of it frozen. -/
def Whole (w : World) (g : Nat) (t : TypeId) (cs : Array Value) : Prop := w.heap[g]? = some (.cells cs t (0, 0))
section
variable {w w' : World} {g : Nat} {t : TypeId} {cs : Array Value}
theorem Whole.lt (h : Whole w g t cs) : g < w.heap.size := (Array.getElem?_eq_some_iff.1 h).1
theorem Whole.cell (h : Whole w g t cs) (i : Nat) : w.cell? ⟨g, i, none⟩ = cs[i]? := cell_of_row w g i cs t (0, 0) h
theorem Whole.free (h : Whole w g t cs) (i : Nat) : w.frozen? ⟨g, i, none⟩ = false := by
  unfold Whole at h
  simp [World.frozen?, h]
theorem Whole.made (w : World) (t : TypeId) (cs : Array Value) : Whole (w.alloc (.cells cs t)) w.heap.size t cs := heap_alloc_new w _
theorem Whole.made2 (w : World) (a : Obj) (t : TypeId) (cs : Array Value) : Whole ((w.alloc a).alloc (.cells cs t)) (w.heap.size + 1) t cs := by
  have := Whole.made (w.alloc a) t cs
  rwa [World.size_alloc] at this
theorem Whole.madeAt (w : World) (t : TypeId) (cs : Array Value) (g : Nat) (hg : g = w.heap.size) : Whole (w.alloc (.cells cs t)) g t cs := by subst hg; exact Whole.made w t cs
theorem Whole.drew (h : Whole w g t cs) : Whole w.drew g t cs := h
/-- the same, the world read off another fact -/
theorem whole_at {B : Nat} {w0 : World} (_ : Below B w0 w) {g : Nat} {t : TypeId} {cs : Array Value} (h : Whole w g t cs) : Whole w g t cs := h
theorem with_whole {B : Nat} {w0 : World} {p : Prop} (_ : Below B w0 w) {g : Nat} {t : TypeId} {cs : Array Value} (h : Whole w g t cs) (k : Whole w g t cs → p) : p := k h
theorem Whole.drewN (h : Whole w g t cs) (n : Nat) : Whole (w.drewN n) g t cs := h
theorem Whole.alloc (h : Whole w g t cs) (o : Obj) : Whole (w.alloc o) g t cs := (Below.heap_alloc w o g h.lt).trans h
theorem Whole.later {B : Nat} (h : Whole w g t cs) (hb : Below B w w') (hg : g < B) : Whole w' g t cs := (hb.block g hg).trans h
theorem Whole.set (h : Whole w g t cs) (i : Nat) (u : Value) : Whole (w.setCell ⟨g, i, none⟩ u) g t (cs.setIfInBounds i u) := by
  unfold Whole at h ⊢
  simp [World.setCell, Array.getElem?_modify, h]
theorem Whole.other (h : Whole w g t cs) {p : Addr} (hp : g ≠ p.block) (u : Value) : Whole (w.setCell p u) g t cs := (Below.heap_setCell w p u g hp).trans h
end
end Go.Proofs.Ytkkhecdmjcffjaa
