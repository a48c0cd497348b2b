/- Merged texts: AuditStand, AuditAwake. No law is proved here. -/
import Derived.Test.YtgonboccklpoaaaMg14
import Derived.Test.YtgonboccklpoaaaRefAuditMay
import Derived.Test.YtgonboccklpoaaaMg16
import Derived.Test.YtgonboccklpoaaaAuditBegin
import Derived.Test.YtgonboccklpoaaaAuditNext
import Derived.Test.YtgonboccklpoaaaAuditEnds
import Derived.Test.YtgonboccklpoaaaAuditTell
import Derived.Test.YtgonboccklpoaaaMg20
/- Package audit: all contracts together. No law is proved here. -/
namespace Go.Proofs.Ytgonboccklpoaaa

theorem aBegin_calls (c : Cf) (who tr : Int) (w : World) : Calls Try.prog 10 #[cfV c, .int .i64 who, .int .i64 tr] w (GaveA w (beginA c who tr)) :=
  (aBeginO_calls c who tr w).mono fun _ _ h => h.gave
theorem aTell_calls (c : Cf) (who : Int) (x : Au) (p : Al) (m : Ml) (a1 : Option Addr) (m1 c1 : Nat) (a2 : Option Addr) (m2 c2 : Nat) (w : World) (hA : AuIn w p x) (hM : MailIn w a1 m1 c1 a2 m2 c2 m) :
    Calls Try.prog 12 #[cfV c, .int .i64 who, auAt x p, mlV m (.slice a1 m1 c1) (.slice a2 m2 c2)] w (GaveA w (tellA c who x m)) :=
  (aTellO_calls c who x p m a1 m1 c1 a2 m2 c2 w hA hM).mono fun _ _ h => h.gave
theorem aNext_calls (c : Cf) (who : Int) (x : Au) (p : Al) (a : Option Addr) (m cp : Nat) (l : List Rw) (hm : m = l.length) (w : World) (hA : AuIn w p x) (hB : Books w (.slice a m cp) l) :
    Calls Try.prog 15 #[cfV c, .int .i64 who, auAt x p, .slice a m cp] w (GoesA w (nextA c who x l)) :=
  (aNextO_calls c who x p a m cp l hm w hA hB).mono fun _ _ h => h.goes
end Go.Proofs.Ytgonboccklpoaaa

/- Layer 15's fixed answers, walked. No law is proved here. -/
namespace Go.Proofs.Ytgonboccklpoaaa
open Go.RowKit

abbrev wakeC15 : Cf := ⟨1, 1, 0, 1, 9, 0⟩
abbrev wakeL15 : List Rw := [⟨0, 4, [0]⟩]
abbrev wakeA15 : Au := ⟨3, 1, [false], [0], [0], false⟩
abbrev wakeB15 : Au := ⟨3, 2, [false], [4], [0], false⟩
theorem run_eql_look (w : World) (a b : Int) : (binOp .eql 29 (.agg #[.int .i64 a, .int .i64 b]) (.agg #[.int .i64 a, .int .i64 b])).run Try.prog w = .ok (.bool true) w := by
  simp [go_sem, Try.underlying29]
/-- one row, written out -/
theorem books_one {w : World} {g g0 : Nat} {r0 : Rw} (h0 : Whole w g0 2 (r0.out.map (Value.int .i64)).toArray) (l0 : r0.out.length ≤ 1000)
    (h : Whole w g 58 #[.int .i64 r0.inc, .int .i64 r0.use, .slice (some ⟨g0, 0, none⟩) r0.out.length r0.out.length]) : Books w (.slice (some ⟨g, 0, none⟩) 1 1) [r0] := by
  refine ⟨fun _ => .slice (some ⟨g0, 0, none⟩) r0.out.length r0.out.length, ⟨show 1 ≤ 9223372036854775807 by decide, Or.inr ⟨g, 0, 1, rfl, Nat.le_refl _, fun i j hi hj => ?_⟩⟩, fun k hk => ?_⟩
  · have hi : i < 1 := hi
    obtain rfl : i = 0 := by omega
    have hc := h.cell
    match j, hj with
    | 0, _ => exact hc 0
    | 1, _ => exact hc 1
    | 2, _ => exact hc 2
  · have hk : k < 1 := hk
    obtain rfl : k = 0 := by omega
    exact ⟨_, _, rfl, lit_n64 h0 (by omega)⟩
set_option maxRecDepth 100000 in
set_option maxHeartbeats 4000000 in
theorem awake15 (w : World) : Calls Try.prog 6 #[] w (Says w true) := by
  have e1 : beginA wakeC15 0 3 = (wakeA15, 0) := by decide +kernel
  have e2 : nextA wakeC15 0 wakeA15 wakeL15 = (wakeB15, true) := by decide +kernel
  have e3 : endsA wakeC15 0 wakeB15 wakeL15 = (5, true, true) := by decide +kernel
  have E1 := Lib.hid e1; have E2 := Lib.hid e2; have E3 := Lib.hid e3
  clear e1 e2 e3
  obtain ⟨W0, HW0⟩ : ∃ z, z = ((w.alloc (.cells (cfCells wakeC15) 23)).alloc (.cells #[.int .i64 0] 2)) := ⟨_, rfl⟩
  have hb0 : Below w.heap.size w W0 := by rw [HW0]; exact below_two w _ _
  have hW0 : Whole W0 w.heap.size 23 (cfCells wakeC15) := by rw [HW0]; exact (Whole.made w _ _).alloc _
  have hN0 : Whole W0 (w.heap.size + 1) 2 #[.int .i64 0] := by rw [HW0]; exact Whole.made2 w _ _ _
  have hs0 : W0.heap.size = w.heap.size + 1 + 1 := by rw [HW0]; simp
  have hb1 := below_box W0 (.cells #[.int .i64 0, .int .i64 4, .slice (some ⟨w.heap.size + 1, 0, none⟩) 1 1] 58)
  have hL1 := books_one (r0 := ⟨0, 4, [0]⟩) (hN0.later hb1 hN0.lt) (by decide) (Whole.made W0 58 #[.int .i64 0, .int .i64 4, .slice (some ⟨w.heap.size + 1, 0, none⟩) 1 1])
  have Hb1 := Lib.hid (held_next hb0 hb1)
  have HW1 := Lib.hid (hW0.later hb1 hW0.lt)
  rw [hs0] at hL1
  subst HW0
  have HL1 := Lib.hid hL1
  clear hb0 hW0 hN0 hs0 hb1 hL1
  go_enter Try.func6, Try.ntmps6
  go_wp2_with fail
  refine (aBegin_calls wakeC15 0 3 _).mono ?_
  rw [E1.out]
  rintro e w2 ⟨⟨a1, m1, c1, a2, m2, c2, a3, m3, c3⟩, rfl, hA, hb⟩
  have hb2 := held_next hb (below_box w2 (.cells (auCells wakeA15 (.slice a1 m1 c1) (.slice a2 m2 c2) (.slice a3 m3 c3)) 33))
  have HX2 := Lib.hid (Whole.made w2 33 (auCells wakeA15 (.slice a1 m1 c1) (.slice a2 m2 c2) (.slice a3 m3 c3)))
  have HA2 := Lib.hid (hA.later (below_box w2 (.cells (auCells wakeA15 (.slice a1 m1 c1) (.slice a2 m2 c2) (.slice a3 m3 c3)) 33)))
  have Hb2 := Lib.hid (held_next Hb1.out hb2)
  have HW2 := Lib.hid (HW1.out.later hb2 HW1.out.lt)
  have HL2 := Lib.hid (HL1.out.later hb2)
  clear hb hb2 hA
  obtain ⟨d0, d1, d2, d3, d4, d5⟩ := config_cells HW2.out
  obtain ⟨e0, e1, e2, e3, e4, e5⟩ := au_cells HX2.out
  simp only at d0 d1 d2 d3 d4 d5 e0 e1 e2 e3 e4 e5
  go_wp2_with fail
  refine (aNext_calls wakeC15 0 wakeA15 _ _ 1 1 wakeL15 rfl _ HA2.out HL2.out).mono ?_
  rw [E2.out]
  rintro e w3 ⟨⟨a4, m4, c4, a5, m5, c5, a6, m6, c6⟩, rfl, hA, hb⟩
  have hb3 := held_next hb (below_box w3 (.cells (auCells wakeB15 (.slice a4 m4 c4) (.slice a5 m5 c5) (.slice a6 m6 c6)) 33))
  have HX3 := Lib.hid (Whole.made w3 33 (auCells wakeB15 (.slice a4 m4 c4) (.slice a5 m5 c5) (.slice a6 m6 c6)))
  have HA3 := Lib.hid (hA.later (below_box w3 (.cells (auCells wakeB15 (.slice a4 m4 c4) (.slice a5 m5 c5) (.slice a6 m6 c6)) 33)))
  have Hb3 := Lib.hid (held_next Hb2.out hb3)
  have HW3 := Lib.hid (HW2.out.later hb3 HW2.out.lt)
  have HL3 := Lib.hid (HL2.out.later hb3)
  clear hb hb3 hA d0 d1 d2 d3 d4 d5 e0 e1 e2 e3 e4 e5
  obtain ⟨d0, d1, d2, d3, d4, d5⟩ := config_cells HW3.out
  obtain ⟨e0, e1, e2, e3, e4, e5⟩ := au_cells HX3.out
  simp only at d0 d1 d2 d3 d4 d5 e0 e1 e2 e3 e4 e5
  go_wp2_with fail
  refine (aEnds_calls wakeC15 0 wakeB15 _ _ 1 1 wakeL15 rfl _ HA3.out HL3.out).mono ?_
  rw [E3.out]
  rintro e w4 ⟨rfl, hb⟩
  have Hb4 := Lib.hid (held_next Hb3.out hb)
  have HX4 := Lib.hid (HX3.out.later hb HX3.out.lt)
  clear hb d0 d1 d2 d3 d4 d5 e0 e1 e2 e3 e4 e5
  obtain ⟨e0, e1, e2, e3, e4, e5⟩ := au_cells HX4.out
  simp only at e0 e1 e2 e3 e4 e5
  have hlk := fun w => run_eql_look w 3 2
  go_wp2_with fail
  go_ret
  exact ⟨by rfl, Hb4.out⟩
end Go.Proofs.Ytgonboccklpoaaa
