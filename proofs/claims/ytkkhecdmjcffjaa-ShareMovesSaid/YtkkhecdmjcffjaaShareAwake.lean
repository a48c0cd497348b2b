/- Layer 13's fixed answers, walked. No law is proved here. -/
import Derived.Test.YtkkhecdmjcffjaaShareStand
import Derived.Test.YtkkhecdmjcffjaaNumsPlain
namespace Go.Proofs.Ytkkhecdmjcffjaa
open Go.RowKit

/-- three rows, written out, each list of numbers in a block of its own -/
theorem books_three {w : World} {g g0 g1 g2 : Nat} {r0 r1 r2 : Rw} (h0 : Whole w g0 2 (r0.out.map (Value.int .i64)).toArray) (h1 : Whole w g1 2 (r1.out.map (Value.int .i64)).toArray) (h2 : Whole w g2 2 (r2.out.map (Value.int .i64)).toArray)
    (l0 : r0.out.length ≤ 1000) (l1 : r1.out.length ≤ 1000) (l2 : r2.out.length ≤ 1000)
    (h : Whole w g 37 #[.int .i64 r0.inc, .int .i64 r0.use, .slice (some ⟨g0, 0, none⟩) r0.out.length r0.out.length, .int .i64 r1.inc, .int .i64 r1.use, .slice (some ⟨g1, 0, none⟩) r1.out.length r1.out.length, .int .i64 r2.inc, .int .i64 r2.use, .slice (some ⟨g2, 0, none⟩) r2.out.length r2.out.length]) :
    Books w (.slice (some ⟨g, 0, none⟩) 3 3) [r0, r1, r2] := by
  refine ⟨fun k => if k = 0 then .slice (some ⟨g0, 0, none⟩) r0.out.length r0.out.length else if k = 1 then .slice (some ⟨g1, 0, none⟩) r1.out.length r1.out.length else .slice (some ⟨g2, 0, none⟩) r2.out.length r2.out.length, ?_, ?_⟩
  · refine ⟨show 3 ≤ 9223372036854775807 by decide, Or.inr ⟨g, 0, 3, rfl, Nat.le_refl _, fun i j hi hj => ?_⟩⟩
    have hi : i < 3 := hi
    have hc := h.cell
    match i, hi, j, hj with
    | 0, _, 0, _ => exact hc 0
    | 0, _, 1, _ => exact hc 1
    | 0, _, 2, _ => exact hc 2
    | 1, _, 0, _ => exact hc 3
    | 1, _, 1, _ => exact hc 4
    | 1, _, 2, _ => exact hc 5
    | 2, _, 0, _ => exact hc 6
    | 2, _, 1, _ => exact hc 7
    | 2, _, 2, _ => exact hc 8
  · intro k hk
    have hk : k < 3 := hk
    match k, hk with
    | 0, _ => exact ⟨_, _, rfl, lit_n64 h0 (by omega)⟩
    | 1, _ => exact ⟨_, _, rfl, lit_n64 h1 (by omega)⟩
    | 2, _ => exact ⟨_, _, rfl, lit_n64 h2 (by omega)⟩
theorem five_blocks (w : World) (c0 c1 c2 c3 c4 : Array Value) (t0 t1 t2 t3 t4 : TypeId) :
    Below w.heap.size w (((((w.alloc (.cells c0 t0)).alloc (.cells c1 t1)).alloc (.cells c2 t2)).alloc (.cells c3 t3)).alloc (.cells c4 t4)) ∧
    Whole (((((w.alloc (.cells c0 t0)).alloc (.cells c1 t1)).alloc (.cells c2 t2)).alloc (.cells c3 t3)).alloc (.cells c4 t4)) w.heap.size t0 c0 ∧
    Whole (((((w.alloc (.cells c0 t0)).alloc (.cells c1 t1)).alloc (.cells c2 t2)).alloc (.cells c3 t3)).alloc (.cells c4 t4)) (w.heap.size + 1) t1 c1 ∧
    Whole (((((w.alloc (.cells c0 t0)).alloc (.cells c1 t1)).alloc (.cells c2 t2)).alloc (.cells c3 t3)).alloc (.cells c4 t4)) (w.heap.size + 1 + 1) t2 c2 ∧
    Whole (((((w.alloc (.cells c0 t0)).alloc (.cells c1 t1)).alloc (.cells c2 t2)).alloc (.cells c3 t3)).alloc (.cells c4 t4)) (w.heap.size + 1 + 1 + 1) t3 c3 ∧
    Whole (((((w.alloc (.cells c0 t0)).alloc (.cells c1 t1)).alloc (.cells c2 t2)).alloc (.cells c3 t3)).alloc (.cells c4 t4)) (w.heap.size + 1 + 1 + 1 + 1) t4 c4 := by
  refine ⟨?_, ?_, ?_, ?_, ?_, ?_⟩
  · exact ((((below_box w _).alloc (by simp) _).alloc (by simp; omega) _).alloc (by simp; omega) _).alloc (by simp; omega) _
  · exact ((((Whole.made w t0 c0).alloc _).alloc _).alloc _).alloc _
  · exact (((Whole.madeAt _ t1 c1 _ (by simp)).alloc _).alloc _).alloc _
  · exact ((Whole.madeAt _ t2 c2 _ (by simp)).alloc _).alloc _
  · exact (Whole.madeAt _ t3 c3 _ (by simp)).alloc _
  · exact Whole.madeAt _ t4 c4 _ (by simp)
def wakeC13 : Cf := ⟨3, 1, 0, 1, 15, 0⟩
def wakeL13 : List Rw := [⟨0, 0, [0, 0, 0]⟩, ⟨0, 0, [3, 0, 0]⟩, ⟨0, 0, [1, 0, 0]⟩]
set_option maxRecDepth 100000 in
set_option maxHeartbeats 4000000 in
theorem awake13 (w : World) : Calls Try.prog 6 #[] w (Says w true) := by
  have e1 : giveV wakeC13 wakeL13 0 1 = (1, 3) := by decide +kernel
  have e2 : grantV wakeC13 wakeL13 0 1 1 4 = 2 := by decide +kernel
  have E1 := Lib.hid e1; have E2 := Lib.hid e2
  clear e1 e2
  go_enter Try.func6, Try.ntmps6
  have h5 := five_blocks w (cfCells wakeC13) #[.int .i64 0, .int .i64 0, .int .i64 0] #[.int .i64 3, .int .i64 0, .int .i64 0] #[.int .i64 1, .int .i64 0, .int .i64 0]
    #[.int .i64 0, .int .i64 0, .slice (some ⟨w.heap.size + 1, 0, none⟩) 3 3, .int .i64 0, .int .i64 0, .slice (some ⟨w.heap.size + 1 + 1, 0, none⟩) 3 3, .int .i64 0, .int .i64 0, .slice (some ⟨w.heap.size + 1 + 1 + 1, 0, none⟩) 3 3]
    23 2 2 2 37
  obtain ⟨hb, hW, h1, h2, h3, h4⟩ := h5
  have hB := books_three (r0 := ⟨0, 0, [0, 0, 0]⟩) (r1 := ⟨0, 0, [3, 0, 0]⟩) (r2 := ⟨0, 0, [1, 0, 0]⟩) h1 h2 h3 (by decide) (by decide) (by decide) h4
  have Hb0 := Lib.hid hb; have HW := Lib.hid hW; have HB := Lib.hid hB
  clear hb hW h1 h2 h3 h4 hB
  go_wp2_with fail
  refine (sGive_calls wakeC13 _ 3 3 wakeL13 0 1 rfl (by decide) _ HB.out).mono ?_
  rw [E1.out]
  rintro e w1 ⟨rfl, hb⟩
  have Hb1 := Lib.hid (held_next Hb0.out hb)
  have HW1 := Lib.hid (HW.out.later hb HW.out.lt)
  have HB1 := Lib.hid (HB.out.later hb)
  clear hb
  obtain ⟨d0, d1, d2, d3, d4, d5⟩ := config_cells HW1.out
  simp only [wakeC13] at d0 d1 d2 d3 d4 d5
  go_wp2_with fail
  refine (sGrant_calls wakeC13 _ 3 3 wakeL13 0 1 1 4 rfl (by decide) _ HB1.out).mono ?_
  rw [E2.out]
  rintro e w2 ⟨rfl, hb⟩
  have Hb2 := Lib.hid (held_next Hb1.out hb)
  clear hb d0 d1 d2 d3 d4 d5
  go_wp2_with fail
  go_ret
  exact ⟨by rfl, Hb2.out⟩
end Go.Proofs.Ytkkhecdmjcffjaa
