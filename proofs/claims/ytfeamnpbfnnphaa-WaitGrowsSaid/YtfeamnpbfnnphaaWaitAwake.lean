/- Layer 10's fixed answers, walked. No law is proved here. -/
import Derived.Test.YtfeamnpbfnnphaaWaitStand
namespace Go.Proofs.Ytfeamnpbfnnphaa
open Go.RowKit

set_option maxRecDepth 100000 in
set_option maxHeartbeats 2000000 in
theorem awake10 (w : World) : Calls Try.prog 6 #[] w (Says w true) := by
  have e1 : boundV 5 0 = 1 := by decide +kernel
  have e2 : boundV 5 2 = 4 := by decide +kernel
  have e3 : boundV 5 3 = 5 := by decide +kernel
  have e4 : waitV 5 2 7 = 4 := by decide +kernel
  have E1 := Lib.hid e1; have E2 := Lib.hid e2; have E3 := Lib.hid e3; have E4 := Lib.hid e4
  clear e1 e2 e3 e4
  go_enter Try.func6, Try.ntmps6
  go_wp2_with fail
  refine (wBound_calls 5 0 w).mono ?_
  rw [E1.out]
  rintro e w1 ⟨rfl, hb⟩
  have Hb1 := Lib.hid hb
  clear hb
  go_wp2_with fail
  refine (wBound_calls 5 2 w1).mono ?_
  rw [E2.out]
  rintro e w2 ⟨rfl, hb⟩
  have Hb2 := Lib.hid (held_next Hb1.out hb)
  clear hb
  go_wp2_with fail
  refine (wBound_calls 5 3 w2).mono ?_
  rw [E3.out]
  rintro e w3 ⟨rfl, hb⟩
  have Hb3 := Lib.hid (held_next Hb2.out hb)
  clear hb
  go_wp2_with fail
  refine (wWait_calls 5 2 7 (by decide) w3).mono ?_
  rw [E4.out]
  rintro e w4 ⟨rfl, hb⟩
  have Hb4 := Lib.hid (held_next Hb3.out hb)
  clear hb
  go_wp2_with fail
  go_ret
  exact ⟨by simp, Hb4.out⟩
end Go.Proofs.Ytfeamnpbfnnphaa
