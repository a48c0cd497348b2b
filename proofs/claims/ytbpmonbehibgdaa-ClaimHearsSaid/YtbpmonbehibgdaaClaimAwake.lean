/- Layer 14's fixed answers, and what isn't too much for a look, walked. No law is proved here. -/
import Derived.Test.YtbpmonbehibgdaaMg43
import Derived.Test.YtbpmonbehibgdaaMg18
namespace Go.Proofs.Ytbpmonbehibgdaa
open Go.RowKit

abbrev wakeC14 : Cf := ⟨2, 1, 1, 1, 0, 0⟩
abbrev wakeN14 : Nt := ⟨4, 3, 1, 5, 1, 0, 0⟩
theorem two_notes {w : World} {g : Nat} {x y : Nt} (h : Whole w g 47 (ntCells x ++ ntCells y)) : Notes w (.slice (some ⟨g, 0, none⟩) 2 2) [x, y] := by
  refine ⟨show 2 ≤ 9223372036854775807 by decide, Or.inr ⟨g, 0, 2, rfl, Nat.le_refl _, fun i j hi hj => ?_⟩⟩
  have hi : i < 2 := hi
  have hc := h.cell
  match i, hi, j, hj with
  | 0, _, 0, _ => exact hc 0
  | 0, _, 1, _ => exact hc 1
  | 0, _, 2, _ => exact hc 2
  | 0, _, 3, _ => exact hc 3
  | 0, _, 4, _ => exact hc 4
  | 0, _, 5, _ => exact hc 5
  | 0, _, 6, _ => exact hc 6
  | 1, _, 0, _ => exact hc 7
  | 1, _, 1, _ => exact hc 8
  | 1, _, 2, _ => exact hc 9
  | 1, _, 3, _ => exact hc 10
  | 1, _, 4, _ => exact hc 11
  | 1, _, 5, _ => exact hc 12
  | 1, _, 6, _ => exact hc 13
set_option maxRecDepth 100000 in
set_option maxHeartbeats 4000000 in
theorem light14 (a0 : Option Addr) (m cp : Nat) (x : Ml) (a1 : Option Addr) (m1 c1 : Nat) (a2 : Option Addr) (m2 c2 : Nat) (hR : Reach x.rows) (hm : m ≤ 9223372036854775807) (w : World) (hM : MailIn w a1 m1 c1 a2 m2 c2 x) :
    Calls Try.prog 7 #[.slice a0 m cp, mlV x (.slice a1 m1 c1) (.slice a2 m2 c2)] w (Says w (decide (m ≤ 40) && (decide (m2 ≤ 40) && shortB x.rows))) := by
  obtain ⟨hm1, hB1, hm2, hB2⟩ := hM
  have hbig2 : m2 ≤ 9223372036854775807 := by rw [hm2]; exact hB2.1
  have HB1 := Lib.hid hB1
  have HX := Lib.hid (Whole.made w 34 (mlCells x (.slice a1 m1 c1) (.slice a2 m2 c2)))
  have Hb0 := Lib.hid (below_box w (.cells (mlCells x (.slice a1 m1 c1) (.slice a2 m2 c2)) 34))
  clear hB1 hB2
  obtain ⟨fr, tg, clk, rows, t, a, v, asks, try_, ph, echo⟩ := x
  obtain ⟨z, Hz⟩ : ∃ z, Hid (shortB rows = z) := ⟨_, rfl⟩
  have hcall := fun w hw => refshort_calls a1 m1 c1 rows hm1 hR w hw
  rw [Hz.out] at hcall
  have Hcall := Lib.hid hcall
  show Calls _ _ _ _ (Says w (decide (m ≤ 40) && (decide (m2 ≤ 40) && shortB rows)))
  rw [Hz.out]
  clear hcall hm1 hm2 hR
  go_enter Try.func7, Try.ntmps7
  by_cases h1 : m ≤ 40
  · by_cases h2 : m2 ≤ 40
    · rw [decide_eq_true h1, decide_eq_true h2]
      go_wp2_with fail
      refine (Hcall.out _ (HB1.out.later Hb0.out)).mono ?_
      rintro e w1 ⟨rfl, hb⟩
      have Hb1 := Lib.hid (held_next Hb0.out hb)
      clear hb
      go_wp2_with fail
      go_ret
      exact ⟨by rfl, Hb1.out⟩
    · rw [decide_eq_true h1, decide_eq_false h2]
      go_wp2_with fail
      go_ret
      exact ⟨by rfl, Hb0.out⟩
  · rw [decide_eq_false h1]
    go_wp2_with fail
    go_ret
    exact ⟨by rfl, Hb0.out⟩
set_option maxRecDepth 100000 in
set_option maxHeartbeats 4000000 in
theorem awake14 (w : World) : Calls Try.prog 6 #[] w (Says w true) := by
  have e1 : oldestN wakeC14 0 [nt0, wakeN14] = (⟨3, 1, 5⟩, true) := by decide +kernel
  have e2 : callsN wakeC14 0 [nt0, wakeN14] ⟨0, 0, 0⟩ = (1, true) := by decide +kernel
  have e3 : onB wakeC14 wakeN14 = true := by decide +kernel
  have e4 : onB wakeC14 ⟨4, 3, 1, 5, 0, 0, 0⟩ = false := by decide +kernel
  have E1 := Lib.hid e1; have E2 := Lib.hid e2; have E3 := Lib.hid e3; have E4 := Lib.hid e4
  clear e1 e2 e3 e4
  obtain ⟨W0, HW0⟩ : ∃ z, z = ((w.alloc (.cells (cfCells wakeC14) 23)).alloc (.cells (ntCells wakeN14) 47)) := ⟨_, rfl⟩
  have hb0 : Below w.heap.size w W0 := by rw [HW0]; exact below_two w _ _
  have hW0 : Whole W0 w.heap.size 23 (cfCells wakeC14) := by rw [HW0]; exact (Whole.made w _ _).alloc _
  have hN0 : Whole W0 (w.heap.size + 1) 47 (ntCells wakeN14) := by rw [HW0]; exact Whole.made2 w _ _ _
  have hs0 : W0.heap.size = w.heap.size + 1 + 1 := by rw [HW0]; simp
  have hb1 := below_box W0 (.cells (ntCells nt0 ++ ntCells wakeN14) 47)
  have hL1 := two_notes (Whole.made W0 47 (ntCells nt0 ++ ntCells wakeN14))
  have Hb1 := Lib.hid (held_next hb0 hb1)
  have HW1 := Lib.hid (hW0.later hb1 hW0.lt)
  have HN1 := Lib.hid (hN0.later hb1 hN0.lt)
  rw [hs0] at hL1
  subst HW0
  have HL1 := Lib.hid hL1
  clear hb0 hW0 hN0 hs0 hb1 hL1
  go_enter Try.func6, Try.ntmps6
  go_wp2_with fail
  refine (cOldest_calls wakeC14 0 _ 2 2 [nt0, wakeN14] rfl (by decide) _ HL1.out).mono ?_
  rw [E1.out]
  rintro e w2 ⟨rfl, hb⟩
  have hb2 := held_next hb (below_box w2 (.cells (rqCells ⟨3, 1, 5⟩) 29))
  have HQ2 := Lib.hid (Whole.made w2 29 (rqCells ⟨3, 1, 5⟩))
  have Hb2 := Lib.hid (held_next Hb1.out hb2)
  have HW2 := Lib.hid (HW1.out.later hb2 HW1.out.lt)
  have HN2 := Lib.hid (HN1.out.later hb2 HN1.out.lt)
  clear hb hb2
  obtain ⟨d0, d1, d2, d3, d4, d5⟩ := config_cells HW2.out
  obtain ⟨e0, e1, e2, e3, e4, e5, e6⟩ := nt_cells HN2.out
  simp only at d0 d1 d2 d3 d4 d5 e0 e1 e2 e3 e4 e5 e6
  go_wp2_with fail
  obtain ⟨W3, HW3e⟩ : ∃ z, z = w2.alloc (.cells (rqCells ⟨3, 1, 5⟩) 29) := ⟨_, rfl⟩
  have hs3 : W3.heap.size = w2.heap.size + 1 := by rw [HW3e]; simp
  have hL3 := two_notes (Whole.made W3 47 (ntCells nt0 ++ ntCells wakeN14))
  have hb3 := below_box W3 (.cells (ntCells nt0 ++ ntCells wakeN14) 47)
  rw [hs3] at hL3
  subst HW3e
  refine (cCalls_calls wakeC14 0 _ 2 2 [nt0, wakeN14] ⟨0, 0, 0⟩ rfl (by decide) _ hL3).mono ?_
  rw [E2.out]
  rintro e w4 ⟨rfl, hb⟩
  have hb4 := held_next hb3 hb
  have HW4 := Lib.hid (HW2.out.later hb4 HW2.out.lt)
  have HN4 := Lib.hid (HN2.out.later hb4 HN2.out.lt)
  have HQ4 := Lib.hid (HQ2.out.later hb4 HQ2.out.lt)
  have Hb4 := Lib.hid (held_next Hb2.out hb4)
  have hb5 := below_box w4 (.cells (ntCells ⟨4, 3, 1, 5, 0, 0, 0⟩) 47)
  have HW5 := Lib.hid (HW4.out.later hb5 HW4.out.lt)
  have HN5 := Lib.hid (HN4.out.later hb5 HN4.out.lt)
  have HQ5 := Lib.hid (HQ4.out.later hb5 HQ4.out.lt)
  have HF5 := Lib.hid (Whole.made w4 47 (ntCells ⟨4, 3, 1, 5, 0, 0, 0⟩))
  have Hb5 := Lib.hid (held_next Hb4.out hb5)
  clear hb hb3 hb4 hb5 hL3 hs3 d0 d1 d2 d3 d4 d5 e0 e1 e2 e3 e4 e5 e6
  have hlt1 := HW4.out.lt
  have hlt2 := HN4.out.lt
  obtain ⟨d0, d1, d2, d3, d4, d5⟩ := config_cells HW4.out
  obtain ⟨e0, e1, e2, e3, e4, e5, e6⟩ := nt_cells HN4.out
  simp only at d0 d1 d2 d3 d4 d5 e0 e1 e2 e3 e4 e5 e6
  go_wp2_with fail
  refine (cOn_calls wakeC14 wakeN14 _).mono ?_
  rw [E3.out]
  rintro e w6 ⟨rfl, hb⟩
  have HW6 := Lib.hid (HW5.out.later hb HW5.out.lt)
  have HF6 := Lib.hid (HF5.out.later hb HF5.out.lt)
  have HQ6 := Lib.hid (HQ5.out.later hb HQ5.out.lt)
  have Hb6 := Lib.hid (held_next Hb5.out hb)
  clear hb d0 d1 d2 d3 d4 d5 e0 e1 e2 e3 e4 e5 e6
  obtain ⟨d0, d1, d2, d3, d4, d5⟩ := config_cells HW6.out
  obtain ⟨e0, e1, e2, e3, e4, e5, e6⟩ := nt_cells HF6.out
  simp only at d0 d1 d2 d3 d4 d5 e0 e1 e2 e3 e4 e5 e6
  go_wp2_with fail
  refine (cOn_calls wakeC14 ⟨4, 3, 1, 5, 0, 0, 0⟩ _).mono ?_
  rw [E4.out]
  rintro e w7 ⟨rfl, hb⟩
  have HQ7 := Lib.hid (HQ6.out.later hb HQ6.out.lt)
  have Hb7 := Lib.hid (held_next Hb6.out hb)
  clear hb d0 d1 d2 d3 d4 d5 e0 e1 e2 e3 e4 e5 e6
  obtain ⟨q0, q1, q2⟩ := rq_cells HQ7.out
  simp only at q0 q1 q2
  go_wp2_with fail
  go_ret
  exact ⟨by rfl, Hb7.out⟩
end Go.Proofs.Ytbpmonbehibgdaa
