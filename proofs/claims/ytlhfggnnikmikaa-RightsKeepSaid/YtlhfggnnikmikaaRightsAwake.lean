/- Layer 5's fixed answers, walked. -/
import Derived.Test.YtlhfggnnikmikaaRightsStand
namespace Go.Proofs.Ytlhfggnnikmikaa
open Go.RowKit

/-- the config that awake asks with -/
def wakeC : Cf := ⟨3, 1, 0, 1, 7, 5⟩
def wakeM : List Rw := (moveR wakeC (newL wakeC) 0 2 3).1

theorem awake5 (w : World) : Calls Try.prog 9 #[] w (Says w true) := by
  have v1 : (newL wakeC).length = 3 := by decide +kernel
  have v2 : shareV wakeC 0 = 3 := by decide +kernel
  have v3 : shareV wakeC 2 = 2 := by decide +kernel
  have v4 : valueV wakeC (newL wakeC) = 7 := by decide +kernel
  have v5 : (moveR wakeC (newL wakeC) 0 2 3).2 = 0 := by decide +kernel
  have v6 : (takeR wakeC (newL wakeC) 0 4).2 = 7 := by decide +kernel
  have v7 : ofV wakeC wakeM 2 = 5 := by decide +kernel
  have v8 : ofV wakeC wakeM 0 = 0 := by decide +kernel
  have HW := Lib.hid (Whole.made w 23 (cfCells wakeC))
  have Hb0 := Lib.hid (below_box w (.cells (cfCells wakeC) 23))
  have V1 := Lib.hid v1; have V2 := Lib.hid v2; have V3 := Lib.hid v3; have V4 := Lib.hid v4
  have V5 := Lib.hid v5; have V6 := Lib.hid v6; have V7 := Lib.hid v7; have V8 := Lib.hid v8
  clear v1 v2 v3 v4 v5 v6 v7 v8
  obtain ⟨L, HL⟩ : ∃ z, Hid (newL wakeC = z) := ⟨_, rfl⟩
  rw [HL.out] at V1 V4 V5 V6
  go_enter Try.func9, Try.ntmps9
  go_wp2_with fail
  refine (rNew_calls wakeC _).mono ?_
  rw [HL.out]
  rintro e w1 ⟨A, C, rfl, hB, hb⟩
  rw [V1.out] at hB
  rw [V1.out]
  have HB1 := Lib.hid hB
  have Hb1 := Lib.hid (held_next Hb0.out hb)
  have HW1 := Lib.hid (HW.out.later hb HW.out.lt)
  clear hb hB
  obtain ⟨d0, d1, d2, d3, d4, d5⟩ := config_cells HW1.out
  simp only [wakeC] at d0 d1 d2 d3 d4 d5
  go_wp2_with fail
  refine (rShare_calls wakeC 0 _).mono ?_
  rintro e w2 ⟨rfl, hb⟩
  rw [V2.out]
  have Hb2 := Lib.hid (held_next Hb1.out hb)
  have HW2 := Lib.hid (HW1.out.later hb HW1.out.lt)
  have HB2 := Lib.hid (HB1.out.later hb)
  clear hb d0 d1 d2 d3 d4 d5
  obtain ⟨d0, d1, d2, d3, d4, d5⟩ := config_cells HW2.out
  simp only [wakeC] at d0 d1 d2 d3 d4 d5
  go_wp2_with fail
  refine (rShare_calls wakeC 2 _).mono ?_
  rintro e w3 ⟨rfl, hb⟩
  rw [V3.out]
  have Hb3 := Lib.hid (held_next Hb2.out hb)
  have HW3 := Lib.hid (HW2.out.later hb HW2.out.lt)
  have HB3 := Lib.hid (HB2.out.later hb)
  clear hb d0 d1 d2 d3 d4 d5
  obtain ⟨d0, d1, d2, d3, d4, d5⟩ := config_cells HW3.out
  simp only [wakeC] at d0 d1 d2 d3 d4 d5
  go_wp2_with fail
  refine (rValue_calls wakeC A 3 C L V1.out.symm _ HB3.out).mono ?_
  rintro e w4 ⟨rfl, hb⟩
  rw [V4.out]
  have Hb4 := Lib.hid (held_next Hb3.out hb)
  have HW4 := Lib.hid (HW3.out.later hb HW3.out.lt)
  have HB4 := Lib.hid (HB3.out.later hb)
  clear hb d0 d1 d2 d3 d4 d5
  obtain ⟨d0, d1, d2, d3, d4, d5⟩ := config_cells HW4.out
  simp only [wakeC] at d0 d1 d2 d3 d4 d5
  go_wp2_with fail
  refine (rMove_calls wakeC A 3 C L 0 2 3 V1.out.symm _ HB4.out).mono ?_
  rintro e w5 ⟨A5, C5, rfl, hB5, hb⟩
  rw [V5.out]
  have hM : wakeM = (moveR wakeC L 0 2 3).1 := by rw [← HL.out]; exact rfl
  rw [← hM] at hB5 ⊢
  obtain ⟨M, HM⟩ : ∃ z, Hid (wakeM = z) := ⟨_, rfl⟩
  rw [HM.out] at hB5 V7 V8 ⊢
  have HB5 := Lib.hid hB5
  have Hb5 := Lib.hid (held_next Hb4.out hb)
  have HW5 := Lib.hid (HW4.out.later hb HW4.out.lt)
  have HN5 := Lib.hid (HB4.out.later hb)
  clear hb d0 d1 d2 d3 d4 d5 hB5 hM
  obtain ⟨d0, d1, d2, d3, d4, d5⟩ := config_cells HW5.out
  simp only [wakeC] at d0 d1 d2 d3 d4 d5
  obtain ⟨ml, Hml⟩ : ∃ z, Hid (M.length = z) := ⟨_, rfl⟩
  rw [Hml.out] at HB5 ⊢
  go_wp2_with fail
  refine (rTake_calls wakeC A 3 C L 0 4 V1.out.symm _ HN5.out).mono ?_
  rintro e w6 ⟨A6, C6, rfl, hB6, hb⟩
  rw [V6.out]
  have Hb6 := Lib.hid (held_next Hb5.out hb)
  have HW6 := Lib.hid (HW5.out.later hb HW5.out.lt)
  have HB6 := Lib.hid (HB5.out.later hb)
  clear hb d0 d1 d2 d3 d4 d5 hB6
  obtain ⟨tl, Htl⟩ : ∃ z, Hid ((takeR wakeC L 0 4).1.length = z) := ⟨_, rfl⟩
  rw [Htl.out]
  obtain ⟨d0, d1, d2, d3, d4, d5⟩ := config_cells HW6.out
  simp only [wakeC] at d0 d1 d2 d3 d4 d5
  go_wp2_with fail
  refine (rOf_calls wakeC A5 ml C5 M 2 Hml.out.symm _ HB6.out).mono ?_
  rintro e w7 ⟨rfl, hb⟩
  rw [V7.out]
  have Hb7 := Lib.hid (held_next Hb6.out hb)
  have HW7 := Lib.hid (HW6.out.later hb HW6.out.lt)
  have HB7 := Lib.hid (HB6.out.later hb)
  clear hb d0 d1 d2 d3 d4 d5
  obtain ⟨d0, d1, d2, d3, d4, d5⟩ := config_cells HW7.out
  simp only [wakeC] at d0 d1 d2 d3 d4 d5
  go_wp2_with fail
  refine (rOf_calls wakeC A5 ml C5 M 0 Hml.out.symm _ HB7.out).mono ?_
  rintro e w8 ⟨rfl, hb⟩
  rw [V8.out]
  have Hb8 := Lib.hid (held_next Hb7.out hb)
  clear hb d0 d1 d2 d3 d4 d5
  go_wp2_with fail
  go_ret
  exact ⟨by rfl, Hb8.out⟩
end Go.Proofs.Ytlhfggnnikmikaa
