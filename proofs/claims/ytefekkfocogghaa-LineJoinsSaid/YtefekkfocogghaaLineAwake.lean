/- Layer 11's fixed answers, walked. No law is proved here. -/
import Derived.Test.YtefekkfocogghaaLineStand
import Derived.Test.YtefekkfocogghaaLineOwn
namespace Go.Proofs.Ytefekkfocogghaa
open Go.RowKit

theorem wake11_one : joinQ ⟨1, 1, 0, 1, 0, 0⟩ 0 [] ⟨3, 0, 5⟩ = ([⟨3, 0, 5⟩], 0) := by decide +kernel
theorem wake11_two : joinQ ⟨1, 1, 0, 1, 0, 0⟩ 0 [⟨3, 0, 5⟩] ⟨4, 0, 5⟩ = ([], 3) := by decide +kernel
set_option maxRecDepth 100000 in
set_option maxHeartbeats 4000000 in
theorem awake11 (w : World) : Calls Try.prog 6 #[] w (Says w true) := by
  have HW := Lib.hid (Whole.made w 23 (cfCells ⟨1, 1, 0, 1, 0, 0⟩))
  have Hb0 := Lib.hid (below_box w (.cells (cfCells ⟨1, 1, 0, 1, 0, 0⟩) 23))
  go_enter Try.func6, Try.ntmps6
  go_wp2_with fail
  refine (lJoin_calls ⟨1, 1, 0, 1, 0, 0⟩ 0 none 0 0 [] ⟨3, 0, 5⟩ rfl (by decide) _ (Line.nil _ _ _ (fun _ => rfl))).mono ?_
  rw [wake11_one]
  rintro e w1 ⟨A, C, rfl, hL, hb⟩
  have hL' : Line w1 (.slice A 1 C) [⟨3, 0, 5⟩] := hL
  clear hL
  have HL := Lib.hid hL'
  have Hb1 := Lib.hid (held_next Hb0.out hb)
  have HW1 := Lib.hid (HW.out.later hb HW.out.lt)
  clear hb hL'
  obtain ⟨d0, d1, d2, d3, d4, d5⟩ := config_cells HW1.out
  simp only at d0 d1 d2 d3 d4 d5
  show _
  simp only [List.length_singleton]
  go_wp2_with fail
  refine (lJoin_calls ⟨1, 1, 0, 1, 0, 0⟩ 0 A 1 C [⟨3, 0, 5⟩] ⟨4, 0, 5⟩ rfl (by decide) _ HL.out).mono ?_
  rw [wake11_two]
  rintro e w2 ⟨A2, C2, rfl, _, hb⟩
  have Hb2 := Lib.hid (held_next Hb1.out hb)
  have HL2 := Lib.hid (HL.out.later hb)
  clear hb d0 d1 d2 d3 d4 d5
  simp only [List.length_nil]
  go_wp2_with fail
  have hc : 1 ≤ C := by
    obtain ⟨_, ⟨_, _, hv, _, h0⟩ | ⟨_, _, _, hv, hn, _⟩⟩ := HL2.out
    · simp at h0
    · simp only [Value.slice.injEq] at hv
      have hn' : 1 ≤ _ := hn
      omega
  refine (lLeave_calls A 1 C [⟨3, 0, 5⟩] rfl (by decide) hc _ HL2.out).mono ?_
  rintro e w3 ⟨A3, C3, _, rfl, _, hb⟩
  have Hb3 := Lib.hid (held_next (held_next Hb2.out hb) (below_box w3 (.cells (rqCells ⟨3, 0, 5⟩) 28)))
  have HX := Lib.hid (Whole.made w3 28 (rqCells ⟨3, 0, 5⟩))
  clear hb
  have e0 : rqAt [⟨3, 0, 5⟩] 0 = ⟨3, 0, 5⟩ := rfl
  rw [e0]
  simp only [List.length_singleton]
  go_wp2_with fail
  go_ret
  exact ⟨rfl, Hb3.out⟩
end Go.Proofs.Ytefekkfocogghaa
