/- Layer 14's mathematics: what was heard are notes that may be. No program in it; no law is proved here. -/
import Derived.Test.YtbpmonbehibgdaaClaimMath
import Derived.Test.YtbpmonbehibgdaaRefClaimHear
namespace Go.Proofs.Ytbpmonbehibgdaa

theorem heard_ok {c : Cf} {who : Int} {l : List Nt} {x : Ml} (h : notesOk c who l) (hx : mailOk c x) (ht : x.to = who) : notesOk c who (heardL l x) := by
  have hfr := hx.2.1
  have hln := h.2.2.1
  refine ⟨h.1, h.2.1, by rw [heard_length]; exact hln, fun i hi => ?_⟩
  rw [heard_length] at hi
  rw [heard_at hfr.1 (by rw [hln]; exact hfr.2)]
  by_cases hc : (i : Int) = x.fr ∧ (ntAt l i).clk < x.clk
  · rw [if_pos hc]
    refine ⟨by rw [hc.1]; exact note_of_mail hx, fun hw => ?_⟩
    exact absurd (hc.1.symm.trans (hw.trans ht.symm)) hx.2.2.2.1
  · rw [if_neg hc]
    exact h.2.2.2 i hi
end Go.Proofs.Ytbpmonbehibgdaa
