/- A slice of bytes that came in, as one cell. No function of the program in it. No law is proved here. -/
import Derived.Test.YtfooplicnjjipaaDoorSlWords
import Derived.Lib.SmallJoins
namespace Go.Proofs.YtfooplicnjjipaaDoor
open Go.ChangeShapes Go.WideShapes Go.ChangeAt Go.RowKit Go.Joins Go.Deep

theorem cells_byte : Tryd.prog.cellsOf 5 = 1 := by kernel_rfl

/-- one cell: a slice of bytes -/
theorem open_sl {H : Type} {enc : TypeId × Value → H} {W : World} {v : Value} {n : Nat} {y : DataW H × List MemPlace} (hf : DataW.trod enc Tryd.prog W 0 (fun _ => true) true n 22 [v] = some y) :
    ∃ (s : Sl) (zs : List Int), v = slV s ∧ SB W s zs := by
  rcases open_ints Tryd.underlying22 Tryd.underlying5 cells_byte hf with ⟨hcs, hx⟩ | ⟨a, len, cap, zs, hcs, _, hl, hm, hz, hx, hcell, hwz⟩
  · simp only [List.cons.injEq, and_true] at hcs
    exact ⟨⟨none, 0, 0⟩, [], hcs, SB.nil W⟩
  · simp only [List.cons.injEq, and_true] at hcs
    subst hcs
    simp only [if_true] at hz
    have hlen : (zs.take len).length = len := by simp; omega
    have hmm : len ≤ 9223372036854775807 := by unfold maxLen at hm; omega
    have hby : ∀ c ∈ zs.take len, 0 ≤ c ∧ c < 256 := fun z hz' => by
      have h5 := hwz z (List.mem_of_mem_take hz')
      have e1 : IntKind.u8.min = 0 := rfl
      have e2 : IntKind.u8.max = 255 := rfl
      simp only [Lit.wf, e1, e2, Bool.and_eq_true, decide_eq_true_eq] at h5
      omega
    refine ⟨⟨some a, len, cap⟩, zs.take len, rfl, hlen.symm, hl, ?_⟩
    obtain ⟨b, off, spot⟩ := a
    by_cases h0 : len = 0
    · subst h0
      rw [List.take_zero]
      exact bytes_nil W _ _ (fun h => by cases h)
    · have hspot : spot = none := by simpa [Addr.add] using World.cell?_spot (hcell 0 (by omega))
      subst hspot
      refine ⟨by rw [hlen]; exact hmm, hby, Or.inr ⟨b, off, cap, by rw [hlen], fun j hj => ?_⟩⟩
      rw [hlen] at hj
      have := hcell j (by omega)
      rw [← add_plain, this]
      simp [List.getD_eq_getElem?_getD, hj]
end Go.Proofs.YtfooplicnjjipaaDoor
