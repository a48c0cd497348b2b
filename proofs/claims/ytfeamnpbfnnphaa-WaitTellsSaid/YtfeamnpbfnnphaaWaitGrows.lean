/- Law WaitGrows, walked: the more tries, the greater the bound; each wait is from 1 to it. The law itself is stated in WaitCards. -/
import Derived.Test.YtfeamnpbfnnphaaWaitAwake
namespace Go.Proofs.Ytfeamnpbfnnphaa
open Go.RowKit

set_option maxRecDepth 100000 in
set_option maxHeartbeats 2000000 in
theorem waitgrows_out (p a b : Int) (d : Nat) (hp : p < 1 ∨ 16 < p) (hd : d < 4294967296) (w : World) :
    Calls Try.prog 4 #[.int .i64 p, .int .i64 a, .int .i64 b, .int .u32 d] w (Says w true) := by
  have h3 := fun w => wWait_calls p a d hd w
  simp only [waitV_out a d hp] at h3
  have H3 := Lib.hid h3; clear h3 hd
  by_cases h1 : p < 1
  · clear hp
    go_enter Try.func4, Try.ntmps4
    go_wp2_with fail
    refine (awake10 _).mono ?_
    rintro e w1 ⟨rfl, hb⟩
    have Hb1 := Lib.hid hb
    clear hb
    go_wp2_with fail
    refine (H3.out w1).mono ?_
    rintro e w2 ⟨rfl, hb⟩
    have Hb2 := Lib.hid (held_next Hb1.out hb)
    clear hb
    go_wp2_with fail
    go_ret
    exact ⟨by simp, Hb2.out⟩
  · have h2 : 16 < p := by omega
    clear hp
    go_enter Try.func4, Try.ntmps4
    go_wp2_with fail
    refine (awake10 _).mono ?_
    rintro e w1 ⟨rfl, hb⟩
    have Hb1 := Lib.hid hb
    clear hb
    go_wp2_with fail
    refine (H3.out w1).mono ?_
    rintro e w2 ⟨rfl, hb⟩
    have Hb2 := Lib.hid (held_next Hb1.out hb)
    clear hb
    go_wp2_with fail
    go_ret
    exact ⟨by simp, Hb2.out⟩
set_option maxRecDepth 100000 in
set_option maxHeartbeats 2000000 in
theorem waitgrows_up (p a b : Int) (d : Nat) (h1 : 1 ≤ p) (h2 : p ≤ 16) (hab : a < b) (hd : d < 4294967296) (w : World) :
    Calls Try.prog 4 #[.int .i64 p, .int .i64 a, .int .i64 b, .int .u32 d] w (Says w true) := by
  have hB16 := boundV_le p b
  have hA := boundV_mono (p := p) (show a ≤ b by omega)
  have hV := waitV_le p b d
  have hV1 : 1 ≤ waitV p b d := by rw [waitV_in b d h1 h2]; omega
  have hT := boundV_top b h1 h2
  have c1 := fun w => wBound_calls p a w
  have c2 := fun w => wBound_calls p b w
  have c3 := fun w => wWait_calls p b d hd w
  obtain ⟨A, HA⟩ : ∃ B, Hid (boundV p a = B) := ⟨_, rfl⟩
  obtain ⟨B, HB⟩ : ∃ B, Hid (boundV p b = B) := ⟨_, rfl⟩
  obtain ⟨V, HV⟩ : ∃ V, Hid (waitV p b d = V) := ⟨_, rfl⟩
  rw [HB.out] at hB16 hA hV hT
  rw [HA.out] at hA
  rw [HV.out] at hV hV1
  simp only [HA.out] at c1
  simp only [HB.out] at c2
  simp only [HV.out] at c3
  have C1 := Lib.hid c1; have C2 := Lib.hid c2; have C3 := Lib.hid c3
  clear c1 c2 c3 hd
  go_enter Try.func4, Try.ntmps4
  go_wp2_with fail
  refine (awake10 _).mono ?_
  rintro e w1 ⟨rfl, hb⟩
  have Hb1 := Lib.hid hb
  clear hb
  go_wp2_with fail
  refine (C3.out w1).mono ?_
  rintro e w2 ⟨rfl, hb⟩
  have Hb2 := Lib.hid (held_next Hb1.out hb)
  clear hb
  go_wp2_with fail
  refine (C1.out w2).mono ?_
  rintro e w3 ⟨rfl, hb⟩
  have Hb3 := Lib.hid (held_next Hb2.out hb)
  clear hb
  go_wp2_with fail
  refine (C2.out w3).mono ?_
  rintro e w4 ⟨rfl, hb⟩
  have Hb4 := Lib.hid (held_next Hb3.out hb)
  clear hb
  go_wp2_with fail
  refine (C2.out w4).mono ?_
  rintro e w5 ⟨rfl, hb⟩
  have Hb5 := Lib.hid (held_next Hb4.out hb)
  clear hb
  go_wp2_with fail
  go_ret
  exact ⟨by simp; omega, Hb5.out⟩
set_option maxRecDepth 100000 in
set_option maxHeartbeats 2000000 in
theorem waitgrows_down (p a b : Int) (d : Nat) (h1 : 1 ≤ p) (h2 : p ≤ 16) (hab : b < a) (hd : d < 4294967296) (w : World) :
    Calls Try.prog 4 #[.int .i64 p, .int .i64 a, .int .i64 b, .int .u32 d] w (Says w true) := by
  have hB16 := boundV_le p a
  have hA := boundV_mono (p := p) (show b ≤ a by omega)
  have hV := waitV_le p a d
  have hV1 : 1 ≤ waitV p a d := by rw [waitV_in a d h1 h2]; omega
  have hT := boundV_top a h1 h2
  have c1 := fun w => wBound_calls p b w
  have c2 := fun w => wBound_calls p a w
  have c3 := fun w => wWait_calls p a d hd w
  obtain ⟨A, HA⟩ : ∃ B, Hid (boundV p b = B) := ⟨_, rfl⟩
  obtain ⟨B, HB⟩ : ∃ B, Hid (boundV p a = B) := ⟨_, rfl⟩
  obtain ⟨V, HV⟩ : ∃ V, Hid (waitV p a d = V) := ⟨_, rfl⟩
  rw [HB.out] at hB16 hA hV hT
  rw [HA.out] at hA
  rw [HV.out] at hV hV1
  simp only [HA.out] at c1
  simp only [HB.out] at c2
  simp only [HV.out] at c3
  have C1 := Lib.hid c1; have C2 := Lib.hid c2; have C3 := Lib.hid c3
  clear c1 c2 c3 hd
  go_enter Try.func4, Try.ntmps4
  go_wp2_with fail
  refine (awake10 _).mono ?_
  rintro e w1 ⟨rfl, hb⟩
  have Hb1 := Lib.hid hb
  clear hb
  go_wp2_with fail
  refine (C3.out w1).mono ?_
  rintro e w2 ⟨rfl, hb⟩
  have Hb2 := Lib.hid (held_next Hb1.out hb)
  clear hb
  go_wp2_with fail
  refine (C1.out w2).mono ?_
  rintro e w3 ⟨rfl, hb⟩
  have Hb3 := Lib.hid (held_next Hb2.out hb)
  clear hb
  go_wp2_with fail
  refine (C2.out w3).mono ?_
  rintro e w4 ⟨rfl, hb⟩
  have Hb4 := Lib.hid (held_next Hb3.out hb)
  clear hb
  go_wp2_with fail
  refine (C2.out w4).mono ?_
  rintro e w5 ⟨rfl, hb⟩
  have Hb5 := Lib.hid (held_next Hb4.out hb)
  clear hb
  go_wp2_with fail
  go_ret
  exact ⟨by simp; omega, Hb5.out⟩
set_option maxRecDepth 100000 in
set_option maxHeartbeats 2000000 in
theorem waitgrows_same (p b : Int) (d : Nat) (h1 : 1 ≤ p) (h2 : p ≤ 16) (hd : d < 4294967296) (w : World) :
    Calls Try.prog 4 #[.int .i64 p, .int .i64 b, .int .i64 b, .int .u32 d] w (Says w true) := by
  have hB16 := boundV_le p b
  have hV := waitV_le p b d
  have hV1 : 1 ≤ waitV p b d := by rw [waitV_in b d h1 h2]; omega
  have hT := boundV_top b h1 h2
  have c1 := fun w => wBound_calls p b w
  have c2 := fun w => wBound_calls p b w
  have c3 := fun w => wWait_calls p b d hd w
  obtain ⟨B, HB⟩ : ∃ B, Hid (boundV p b = B) := ⟨_, rfl⟩
  obtain ⟨V, HV⟩ : ∃ V, Hid (waitV p b d = V) := ⟨_, rfl⟩
  rw [HB.out] at hB16 hV hT
  rw [HV.out] at hV hV1
  simp only [HB.out] at c1
  simp only [HB.out] at c2
  simp only [HV.out] at c3
  have C1 := Lib.hid c1; have C2 := Lib.hid c2; have C3 := Lib.hid c3
  clear c1 c2 c3 hd
  go_enter Try.func4, Try.ntmps4
  go_wp2_with fail
  refine (awake10 _).mono ?_
  rintro e w1 ⟨rfl, hb⟩
  have Hb1 := Lib.hid hb
  clear hb
  go_wp2_with fail
  refine (C3.out w1).mono ?_
  rintro e w2 ⟨rfl, hb⟩
  have Hb2 := Lib.hid (held_next Hb1.out hb)
  clear hb
  go_wp2_with fail
  refine (C1.out w2).mono ?_
  rintro e w3 ⟨rfl, hb⟩
  have Hb3 := Lib.hid (held_next Hb2.out hb)
  clear hb
  go_wp2_with fail
  refine (C2.out w3).mono ?_
  rintro e w4 ⟨rfl, hb⟩
  have Hb4 := Lib.hid (held_next Hb3.out hb)
  clear hb
  go_wp2_with fail
  refine (C2.out w4).mono ?_
  rintro e w5 ⟨rfl, hb⟩
  have Hb5 := Lib.hid (held_next Hb4.out hb)
  clear hb
  go_wp2_with fail
  go_ret
  exact ⟨by simp; omega, Hb5.out⟩
theorem waitgrows_law (p a b : Int) (d : Nat) (hd : d < 4294967296) (w : World) :
    Calls Try.prog 4 #[.int .i64 p, .int .i64 a, .int .i64 b, .int .u32 d] w (Says w true) := by
  by_cases h : p < 1 ∨ 16 < p
  · exact waitgrows_out p a b d h hd w
  · by_cases hab : a < b
    · exact waitgrows_up p a b d (by omega) (by omega) hab hd w
    · by_cases hba : b < a
      · exact waitgrows_down p a b d (by omega) (by omega) hba hd w
      · obtain rfl : a = b := by omega
        exact waitgrows_same p a d (by omega) (by omega) hd w
end Go.Proofs.Ytfeamnpbfnnphaa
