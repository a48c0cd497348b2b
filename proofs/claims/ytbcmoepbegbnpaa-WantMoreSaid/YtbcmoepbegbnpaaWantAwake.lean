/- Layer 12's fixed answers, walked. No law is proved here. -/
import Derived.Test.YtbcmoepbegbnpaaWantStand
namespace Go.Proofs.Ytbcmoepbegbnpaa
open Go.RowKit

set_option maxRecDepth 100000 in
set_option maxHeartbeats 4000000 in
theorem awake12 (w : World) : Calls Try.prog 6 #[] w (Says w true) := by
  have e1 : estE [8, 4, 0] = (6, 1) := by decide +kernel
  have e2 : keepN [1] 2 = [1, 2] := by decide +kernel
  have E1 := Lib.hid e1; have E2 := Lib.hid e2
  clear e1 e2
  have Hb0 := Lib.hid (below_box w (.cells #[.int .i64 8, .int .i64 4, .int .i64 0] 2))
  have HL := Lib.hid (lit_n64 (l := [8, 4, 0]) (Whole.made w 2 #[.int .i64 8, .int .i64 4, .int .i64 0]) (by decide))
  go_enter Try.func6, Try.ntmps6
  go_wp2_with fail
  refine (nEst_calls (some ⟨w.heap.size, 0, none⟩) 3 3 [8, 4, 0] rfl (by decide) _ HL.out).mono ?_
  rw [E1.out]
  rintro e w1 ⟨rfl, hb⟩
  have Hb1 := Lib.hid (held_next Hb0.out hb)
  clear hb
  have Hb2 := Lib.hid (held_next Hb1.out (below_box w1 (.cells #[.int .i64 1] 2)))
  have HK := Lib.hid (one_n64 (Whole.made w1 2 #[.int .i64 1]))
  go_wp2_with fail
  refine (nKeep_calls (some ⟨w1.heap.size, 0, none⟩) 1 1 [1] 2 rfl (by decide) _ HK.out).mono ?_
  rw [E2.out]
  rintro e w2 ⟨A, C, rfl, _, hb⟩
  have Hb3 := Lib.hid (held_next Hb2.out hb)
  clear hb
  show _
  simp only [List.length_cons, List.length_nil]
  go_wp2_with fail
  go_ret
  exact ⟨by rfl, Hb3.out⟩
end Go.Proofs.Ytbcmoepbegbnpaa
