/- A slice of numbers that came in. No law is proved here. -/
import Derived.Test.YtkkhecdmjcffjaaNums
import Derived.Lib.SmallJoins
namespace Go.Proofs.Ytkkhecdmjcffjaa
open Go.ChangeShapes Go.WideShapes Go.ChangeAt Go.RowKit Go.Joins Go.Deep

theorem cells_row : Try.prog.cellsOf 37 = 3 := by kernel_rfl
theorem cells_int64 : Try.prog.cellsOf 2 = 1 := by kernel_rfl

theorem open_nums {H : Type} {enc : TypeId × Value → H} {W : World} {v : Value} {n : Nat} {y : DataW H × List MemPlace} (hf : DataW.trod enc Try.prog W 0 (fun _ => true) true n 35 [v] = some y) :
    ∃ a m c l, v = .slice a m c ∧ m = l.length ∧ Nums W (.slice a m c) l := by
  rcases open_ints Try.underlying35 Try.underlying2 cells_int64 hf with ⟨hcs, hx⟩ | ⟨a, len, cap, zs, hcs, _, hl, hm, hz, hx, hcell, hwz⟩
  · simp only [List.cons.injEq, and_true] at hcs
    exact ⟨none, 0, 0, [], hcs, rfl, elems_nil W _ _ _ _ (fun _ => rfl)⟩
  · simp only [List.cons.injEq, and_true] at hcs
    subst hcs
    simp only [if_true] at hz
    have hlen : (zs.take len).length = len := by simp; omega
    refine ⟨some a, len, cap, zs.take len, rfl, hlen.symm, ?_⟩
    unfold Nums
    rw [hlen]
    refine ⟨by unfold maxLen at hm; omega, ?_⟩
    obtain ⟨b, off, spot⟩ := a
    by_cases h0 : len = 0
    · subst h0
      exact Or.inl ⟨_, cap, rfl, (fun h => by cases h), rfl⟩
    · have hspot : spot = none := by simpa [Addr.add] using World.cell?_spot (hcell 0 (by omega))
      subst hspot
      refine Or.inr ⟨b, off, cap, rfl, hl, fun i j hi hj => ?_⟩
      obtain rfl : j = 0 := by omega
      have := hcell i (by omega)
      rw [Nat.mul_one, Nat.add_zero, ← add_plain, this]
      simp [List.getD_eq_getElem?_getD, hi]

end Go.Proofs.Ytkkhecdmjcffjaa
