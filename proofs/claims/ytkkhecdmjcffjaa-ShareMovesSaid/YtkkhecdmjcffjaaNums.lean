/- A slice of numbers, nil and empty in one. No law is proved here. -/
import Derived.Test.YtkkhecdmjcffjaaAppend
namespace Go.Proofs.Ytkkhecdmjcffjaa
open Go.RowKit

/-- A slice of numbers. -/
def Nums (w : World) (v : Value) (l : List Int) : Prop := Elems w v 1 l.length (fun i _ => .int .i64 (l[i]?.getD 0))
theorem Nums.later {w w' : World} {v : Value} {l : List Int} (h : Nums w v l) (hb : Below w.heap.size w w') : Nums w' v l := Elems.later h hb
/-- a number, where there is one -/
theorem Nums.at {w : World} {a : Option Addr} {m c : Nat} {l : List Int} (h : Nums w (.slice a m c) l) {i : Nat} (hi : i < l.length) :
    ∃ b off, a = some ⟨b, off, none⟩ ∧ b < w.heap.size ∧ w.cell? ⟨b, off + i, none⟩ = some (.int .i64 (l[i]?.getD 0)) := by
  obtain ⟨b, off, e, hc⟩ := Elems.at h hi
  have := hc 0 (by omega)
  rw [Nat.mul_one, Nat.add_zero] at this
  exact ⟨b, off, e, World.block_lt_of_cell? w _ this, this⟩

end Go.Proofs.Ytkkhecdmjcffjaa
