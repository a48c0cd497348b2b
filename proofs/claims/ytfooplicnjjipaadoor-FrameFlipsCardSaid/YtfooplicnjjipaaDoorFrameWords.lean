/- What Scan answers, in slices of slices; a list of them that came in. No function of the program in it. No law is proved here. -/
import Derived.Test.YtfooplicnjjipaaDoorFrameMath
import Derived.Test.YtfooplicnjjipaaDoorSls
namespace Go.Proofs.YtfooplicnjjipaaDoor
open Go.RowKit

/-- what is scanned -/
def ScannedS (w : World) (l : List (List Int)) (e : Ending) (w' : World) : Prop := ∃ A C, e = .returned (.tuple #[.slice A l.length C, .int .i64 ((FrameMath.frames l).length : Nat)]) ∧ l.length ≤ C ∧ Sls w' (.slice A l.length C) l ∧ Below w.heap.size w w'
/-- a piece of such a slice -/
theorem Sls.upto {w : World} {a : Option Addr} {m c k : Nat} {l : List (List Int)} (h : Sls w (.slice a m c) l) (hk : k ≤ m) (hmc : m ≤ c) :
    ∃ a' c', (∀ w, (Instr.slice 24 (.slice a m c) none (some (.int .i64 (k : Int))) none).run Tryd.prog w = .ok (.slice a' k c') w) ∧ k ≤ c' ∧ ∀ w', Below w.heap.size w w' → Sls w' (.slice a' k c') (l.take k) := by
  have hm := h.len
  refine ⟨if c = 0 then a else a.map (·.add (0 * 1)), c, fun w => ?_, by omega, fun w' hb => ?_⟩
  · rw [run_slice_h w 24 a m c elem_sls .i64 k (by omega) (by omega), size_sls]
    simp [Result.andThen, sliced]
  · have h' := h.later hb
    obtain ⟨f, h1, h2⟩ := h'
    have hl : (l.take k).length = k := by rw [List.length_take]; omega
    by_cases h0 : k = 0
    · subst h0
      rw [List.take_zero]
      refine sls_nil _ _ _ (fun e => ?_)
      by_cases hc : c = 0
      · exact hc
      · rw [if_neg hc] at e
        obtain ⟨_, ⟨a0, c0, hv, hn, _⟩ | ⟨b, off, cap, hv, _⟩⟩ := h1
        · simp only [Value.slice.injEq] at hv
          obtain ⟨rfl, _, rfl⟩ := hv
          exact hn (by simpa using e)
        · simp only [Value.slice.injEq] at hv
          rw [hv.1] at e
          simp at e
    · refine ⟨f, ⟨by rw [hl]; have := h1.1; omega, ?_⟩, fun i hi => ?_⟩
      · obtain ⟨_, ⟨a0, c0, hv, hn, hz⟩ | ⟨b, off, cap, hv, hle, hc⟩⟩ := h1
        · omega
        · simp only [Value.slice.injEq] at hv
          obtain ⟨rfl, _, rfl⟩ := hv
          refine Or.inr ⟨b, off, c, ?_, by rw [hl]; omega, fun i j hi hj => hc i j (by rw [hl] at hi; omega) hj⟩
          rw [hl, if_neg (by omega)]
          simp [Addr.add]
      · rw [hl] at hi
        have := h2 i (by omega)
        rwa [List.getElem?_take, if_pos hi]
end Go.Proofs.YtfooplicnjjipaaDoor
