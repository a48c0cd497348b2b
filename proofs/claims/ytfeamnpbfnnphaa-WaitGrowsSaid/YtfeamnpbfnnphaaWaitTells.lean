/- Law WaitTells, walked: any wait, and its bound. The law itself is stated in WaitCards. -/
import Derived.Test.YtfeamnpbfnnphaaWaitAwake
import Derived.Test.YtfeamnpbfnnphaaRefWait
namespace Go.Proofs.Ytfeamnpbfnnphaa
open Go.RowKit

set_option maxRecDepth 100000 in
set_option maxHeartbeats 2000000 in
theorem waittells_law (p t : Int) (d : Nat) (hd : d < 4294967296) (w : World) :
    Calls Try.prog 3 #[.int .i64 p, .int .i64 t, .int .u32 d] w (Says w true) := by
  have Hd := Lib.hid hd; clear hd
  have hB16 := boundV_le p t
  have hV16 : waitV p t d ≤ 16 := Nat.le_trans (waitV_le p t d) hB16
  have h1 := fun w => wBound_calls p t w
  have h2 := fun w => refbound_calls p t w
  have h3 := fun w => wWait_calls p t d Hd.out w
  have h4 := fun w => refwait_calls p t d Hd.out w
  obtain ⟨B, HB⟩ : ∃ B, Hid (boundV p t = B) := ⟨_, rfl⟩
  obtain ⟨V, HV⟩ : ∃ V, Hid (waitV p t d = V) := ⟨_, rfl⟩
  rw [HB.out] at hB16
  rw [HV.out] at hV16
  simp only [HB.out] at h1 h2
  simp only [HV.out] at h3 h4
  have H1 := Lib.hid h1; have H2 := Lib.hid h2; have H3 := Lib.hid h3; have H4 := Lib.hid h4
  clear h1 h2 h3 h4
  go_enter Try.func3, Try.ntmps3
  go_wp2_with fail
  refine (awake10 _).mono ?_
  rintro e w1 ⟨rfl, hb⟩
  have Hb1 := Lib.hid hb
  clear hb
  go_wp2_with fail
  refine (H1.out w1).mono ?_
  rintro e w2 ⟨rfl, hb⟩
  have Hb2 := Lib.hid (held_next Hb1.out hb)
  clear hb
  go_wp2_with fail
  refine (H2.out w2).mono ?_
  rintro e w3 ⟨rfl, hb⟩
  have Hb3 := Lib.hid (held_next Hb2.out hb)
  clear hb
  go_wp2_with fail
  refine (H3.out w3).mono ?_
  rintro e w4 ⟨rfl, hb⟩
  have Hb4 := Lib.hid (held_next Hb3.out hb)
  clear hb
  go_wp2_with fail
  refine (H4.out w4).mono ?_
  rintro e w5 ⟨rfl, hb⟩
  have Hb5 := Lib.hid (held_next Hb4.out hb)
  clear hb
  go_wp2_with fail
  go_ret
  exact ⟨by simp, Hb5.out⟩
end Go.Proofs.Ytfeamnpbfnnphaa
