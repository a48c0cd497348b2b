/- Bytes of the call's own, as a slice that lies in no elder block. No function of the program in it. No law is proved here. -/
import Derived.Test.YtfooplicnjjipaaDoorOwnBytes
import Derived.Test.YtfooplicnjjipaaDoorSlWords
namespace Go.Proofs.YtfooplicnjjipaaDoor
open Go.RowKit

/-- these bytes, of the call's own -/
def OwnedB (w : World) (zs : List Int) (e : Ending) (w' : World) : Prop := ∃ v, e = .returned v ∧ OwnB w.heap.size w' v zs ∧ Below w.heap.size w w'
theorem OwnB.mono {B B' : Nat} {w : World} {v : Value} {zs : List Int} (h : OwnB B w v zs) (hB : B' ≤ B) : OwnB B' w v zs :=
  ⟨⟨h.1.1, h.1.2.imp id fun ⟨g, cap, cur, h1, h2, h3⟩ => ⟨g, cap, cur, h1, Nat.le_trans hB h2, h3⟩⟩, h.2⟩
/-- as a slice that lies in no elder block -/
theorem OwnB.sl {B : Nat} {w : World} {v : Value} {zs : List Int} (h : OwnB B w v zs) (hl : zs.length ≤ 9223372036854775807) : ∃ s : Sl, v = slV s ∧ SB w s zs ∧ ∀ g, g < B → Off g s zs := by
  obtain ⟨A, C, rfl, hC, hB⟩ := h.form hl
  refine ⟨⟨A, zs.length, C⟩, rfl, ⟨rfl, hC, hB⟩, fun g hg => ?_⟩
  rcases h.1.2 with ⟨hv, h0⟩ | ⟨g', cap, cur, hv, hg', _⟩
  · exact Or.inl (List.eq_nil_of_length_eq_zero h0)
  · simp only [Value.slice.injEq] at hv
    obtain ⟨rfl, _, _⟩ := hv
    refine Or.inr fun e => ?_
    simp at e
    omega
end Go.Proofs.YtfooplicnjjipaaDoor
