/- The answers that the document fixes, walked. -/
import Derived.Test.YtbghdanagahbnaaRowRefJoin
import Derived.Test.YtbghdanagahbnaaRowSent
namespace Go.Proofs.Ytbghdanagahbnaa
open Go.RowKit

theorem two_nums {w : World} {g : Nat} {x y : Int} (h : Whole w g 2 #[.int .i64 x, .int .i64 y]) : Nums w (.slice (some ⟨g, 0, none⟩) 2 2) [x, y] := by
  refine ⟨by simp, Or.inr ⟨g, 0, 2, rfl, Nat.le_refl _, fun i j hi hj => ?_⟩⟩
  obtain rfl : j = 0 := by omega
  have hi' : i < 2 := hi
  rw [Nat.zero_add, Nat.mul_one, Nat.add_zero, h.cell i]
  match i, hi' with
  | 0, _ => rfl
  | 1, _ => rfl

set_option maxRecDepth 100000 in
set_option maxHeartbeats 2000000 in
theorem awake_calls (w : World) : Calls Try.prog 6 #[] w (Says w true) := by
  have HN0 := Lib.hid (two_nums ((Whole.made w 2 #[.int .i64 0, .int .i64 5]).alloc (.cells #[.int .i64 0, .int .i64 7] 2)))
  have HN1 := Lib.hid (two_nums (Whole.made2 w (.cells #[.int .i64 0, .int .i64 5] 2) 2 #[.int .i64 0, .int .i64 7]))
  have Hb0 := Lib.hid (below_two w (.cells #[.int .i64 0, .int .i64 5] 2) (.cells #[.int .i64 0, .int .i64 7] 2))
  go_enter Try.func6, Try.ntmps6
  go_wp2_with fail
  refine (join_loop (some ⟨w.heap.size, 0, none⟩) 2 2 (some ⟨w.heap.size + 1, 0, none⟩) 2 3 0 2 0 [0, 5] [0, 7] rfl rfl _ HN0.out HN1.out (by decide)).mono ?_
  rw [show (max 3 2 : Int) = 3 by decide, show (max 0 0 : Int) = 0 by decide, show joinL [0, 5] [0, 7] = [0, 7] by decide]
  rintro e w1 ⟨A, C, rfl, hN, hb⟩
  have HN := Lib.hid hN
  have Hb1 := Lib.hid (held_next Hb0.out hb)
  have Hb2 := Lib.hid (Hb1.out.alloc Hb1.out.size (.cells #[.int .i64 3, .int .i64 0, .slice A 2 C] 24))
  have HW2 := Lib.hid (Whole.made w1 24 #[.int .i64 3, .int .i64 0, .slice A 2 C])
  have HN2 := Lib.hid (Nums.later hN (below_two w1 (.cells #[.int .i64 3, .int .i64 0, .slice A 2 C] 24) (.cells #[.int .i64 0, .int .i64 7] 2)))
  have HM2 := Lib.hid (two_nums (Whole.made2 w1 (.cells #[.int .i64 3, .int .i64 0, .slice A 2 C] 24) 2 #[.int .i64 0, .int .i64 7]))
  have Hb3 := Lib.hid (Hb2.out.alloc Hb2.out.size (.cells #[.int .i64 0, .int .i64 7] 2))
  have HW3 := Lib.hid (HW2.out.alloc (.cells #[.int .i64 0, .int .i64 7] 2))
  clear hN hb
  go_wp2_with fail
  refine (refsame_calls A 2 C (some ⟨w1.heap.size + 1, 0, none⟩) 2 2 3 0 3 0 [0, 7] [0, 7] rfl rfl _ HN2.out HM2.out).mono ?_
  rintro e w4 ⟨rfl, hb⟩
  rw [show sameB 3 0 [0, 7] 3 0 [0, 7] = true by decide]
  have Hb4 := Lib.hid (held_next Hb3.out hb)
  have HW4 := Lib.hid (HW3.out.later hb HW3.out.lt)
  have HN4 := Lib.hid (HN2.out.later hb)
  obtain ⟨a0, a1, a2⟩ := row_cells HW4.out
  clear hb
  go_wp2_with fail
  refine (may_calls A 2 C 3 0 2 0 [0, 7] rfl _ HN4.out).mono ?_
  rintro e w5 ⟨rfl, hb⟩
  rw [show mayR 3 0 [0, 7] 2 0 = true by decide]
  have Hb5 := Lib.hid (held_next Hb4.out hb)
  have HW5 := Lib.hid (HW4.out.later hb HW4.out.lt)
  have HN5 := Lib.hid (HN4.out.later hb)
  clear a0 a1 a2
  obtain ⟨a0, a1, a2⟩ := row_cells HW5.out
  clear hb
  go_wp2_with fail
  refine (may_calls A 2 C 3 0 2 1 [0, 7] rfl _ HN5.out).mono ?_
  rintro e w6 ⟨rfl, hb⟩
  rw [show mayR 3 0 [0, 7] 2 1 = false by decide]
  have Hb6 := Lib.hid (held_next Hb5.out hb)
  have HW6 := Lib.hid (HW5.out.later hb HW5.out.lt)
  have HN6 := Lib.hid (HN5.out.later hb)
  clear a0 a1 a2
  obtain ⟨a0, a1, a2⟩ := row_cells HW6.out
  clear hb
  go_wp2_with fail
  refine (sent_calls A 2 C 3 0 [0, 7] rfl _ HN6.out).mono ?_
  rintro e w7 ⟨rfl, hb⟩
  rw [show sentV [0, 7] = 7 by decide +kernel]
  have Hb7 := Lib.hid (held_next Hb6.out hb)
  clear hb a0 a1 a2
  go_wp2_with fail
  go_ret
  exact ⟨by simp, Hb7.out⟩
end Go.Proofs.Ytbghdanagahbnaa
