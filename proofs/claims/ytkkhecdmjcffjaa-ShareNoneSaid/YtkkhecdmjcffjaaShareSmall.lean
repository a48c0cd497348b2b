/- Package share: the books as one thing, and its small methods. No law is proved here. -/
import Derived.Test.YtkkhecdmjcffjaaShareMath
import Derived.Test.YtkkhecdmjcffjaaRightsOne
import Derived.Lib.MinMax
namespace Go.Proofs.Ytkkhecdmjcffjaa
open Go.RowKit

/-- config and rows, as one thing -/
abbrev shV (c : Cf) (v : Value) : Value := .agg #[.int .i64 c.n, .int .i64 c.q, .int .i64 c.r, .int .i64 c.p, .int .i64 c.k, .int .i64 c.c, v]
abbrev shCells (c : Cf) (v : Value) : Array Value := #[.int .i64 c.n, .int .i64 c.q, .int .i64 c.r, .int .i64 c.p, .int .i64 c.k, .int .i64 c.c, v]
theorem sh_cells {wr : World} {g : Nat} {c : Cf} {v : Value} (h : Whole wr g 39 (shCells c v)) :
    wr.cell? ⟨g, 0, none⟩ = some (.int .i64 c.n) ∧ wr.cell? ⟨g, 1, none⟩ = some (.int .i64 c.q) ∧ wr.cell? ⟨g, 2, none⟩ = some (.int .i64 c.r) ∧ wr.cell? ⟨g, 3, none⟩ = some (.int .i64 c.p) ∧
    wr.cell? ⟨g, 4, none⟩ = some (.int .i64 c.k) ∧ wr.cell? ⟨g, 5, none⟩ = some (.int .i64 c.c) ∧ wr.cell? ⟨g, 6, none⟩ = some v := ⟨h.cell 0, h.cell 1, h.cell 2, h.cell 3, h.cell 4, h.cell 5, h.cell 6⟩

set_option maxRecDepth 100000 in
set_option maxHeartbeats 4000000 in
theorem sRight_calls (c : Cf) (a : Option Addr) (m cp : Nat) (l : List Rw) (hm : m = l.length) (w : World) (hB : Books w (.slice a m cp) l) :
    Calls Try.prog 14 #[shV c (.slice a m cp)] w (Says w (rightB c l)) := by
  have HW := Lib.hid (Whole.made w 39 (shCells c (.slice a m cp)))
  have Hb0 := Lib.hid (below_box w (.cells (shCells c (.slice a m cp)) 39))
  have hcall := fun w hw => rRight_calls c a m cp l hm w hw
  obtain ⟨n, q, r, p, kk, cc⟩ := c
  obtain ⟨ok, Hok⟩ : ∃ z, Hid (rightB ⟨n, q, r, p, kk, cc⟩ l = z) := ⟨_, rfl⟩
  rw [Hok.out] at hcall ⊢
  have Hcall := Lib.hid hcall
  have HB := Lib.hid hB
  clear hcall hB hm
  obtain ⟨d0, d1, d2, d3, d4, d5, d6⟩ := sh_cells HW.out
  simp only at d0 d1 d2 d3 d4 d5 d6
  go_enter Try.func14, Try.ntmps14
  go_wp2_with fail
  refine (Hcall.out _ (HB.out.later Hb0.out)).mono ?_
  rintro e w1 ⟨rfl, hb⟩
  have Hb1 := Lib.hid (held_next Hb0.out hb)
  clear hb
  go_wp2_with fail
  go_ret
  exact ⟨by rfl, Hb1.out⟩
set_option maxRecDepth 100000 in
set_option maxHeartbeats 4000000 in
theorem sRights_calls (c : Cf) (a : Option Addr) (m cp : Nat) (l : List Rw) (who : Int) (hm : m = l.length) (w : World) (hB : Books w (.slice a m cp) l) :
    Calls Try.prog 18 #[shV c (.slice a m cp), .int .i64 who] w (Num w (ofV c l who)) := by
  have HW := Lib.hid (Whole.made w 39 (shCells c (.slice a m cp)))
  have Hb0 := Lib.hid (below_box w (.cells (shCells c (.slice a m cp)) 39))
  have hcall := fun w hw => rOf_calls c a m cp l who hm w hw
  obtain ⟨n, q, r, p, kk, cc⟩ := c
  obtain ⟨o, Ho⟩ : ∃ z, Hid (ofV ⟨n, q, r, p, kk, cc⟩ l who = z) := ⟨_, rfl⟩
  rw [Ho.out] at hcall ⊢
  have Hcall := Lib.hid hcall
  have HB := Lib.hid hB
  clear hcall hB hm
  obtain ⟨d0, d1, d2, d3, d4, d5, d6⟩ := sh_cells HW.out
  simp only at d0 d1 d2 d3 d4 d5 d6
  go_enter Try.func18, Try.ntmps18
  go_wp2_with fail
  refine (Hcall.out _ (HB.out.later Hb0.out)).mono ?_
  rintro e w1 ⟨rfl, hb⟩
  have Hb1 := Lib.hid (held_next Hb0.out hb)
  clear hb
  go_wp2_with fail
  go_ret
  exact ⟨by rfl, Hb1.out⟩
set_option maxRecDepth 100000 in
set_option maxHeartbeats 4000000 in
theorem sAmong_calls (c : Cf) (v : Value) (who : Int) (w : World) :
    Calls Try.prog 15 #[shV c v, .int .i64 who] w (Says w (amongB c who)) := by
  have HW := Lib.hid (Whole.made w 39 (shCells c v))
  have Hb0 := Lib.hid (below_box w (.cells (shCells c v) 39))
  obtain ⟨n, q, r, p, kk, cc⟩ := c
  obtain ⟨ok, Hok⟩ : ∃ z, Hid (amongB ⟨n, q, r, p, kk, cc⟩ who = z) := ⟨_, rfl⟩
  rw [Hok.out]
  obtain ⟨d0, d1, d2, d3, d4, d5, d6⟩ := sh_cells HW.out
  simp only at d0 d1 d2 d3 d4 d5 d6
  go_enter Try.func15, Try.ntmps15
  by_cases h0 : 0 ≤ who
  · by_cases h1 : who < n
    · obtain rfl : ok = true := Hok.out.symm.trans (amongB_yes ⟨h0, h1⟩)
      go_wp2_with fail
      go_ret
      exact ⟨by rfl, Hb0.out⟩
    · obtain rfl : ok = false := Hok.out.symm.trans (amongB_no fun h => h1 h.2)
      go_wp2_with fail
      go_ret
      exact ⟨by rfl, Hb0.out⟩
  · obtain rfl : ok = false := Hok.out.symm.trans (amongB_no fun h => h0 h.1)
    go_wp2_with fail
    go_ret
    exact ⟨by rfl, Hb0.out⟩
set_option maxRecDepth 100000 in
set_option maxHeartbeats 4000000 in
theorem sSpare_calls (c : Cf) (a : Option Addr) (m cp : Nat) (l : List Rw) (who keep : Int) (hm : m = l.length) (hkeep : keep ≤ 9223372036854775807) (w : World) (hB : Books w (.slice a m cp) l) :
    Calls Try.prog 19 #[shV c (.slice a m cp), .int .i64 who, .int .i64 keep] w (Num w (spareV c l who keep)) := by
  have HW := Lib.hid (Whole.made w 39 (shCells c (.slice a m cp)))
  have Hb0 := Lib.hid (below_box w (.cells (shCells c (.slice a m cp)) 39))
  have hbd := ofV_bound c l who
  have hsp : spareV c l who keep = if 0 < keep then (if ofV c l who ≤ keep then 0 else ofV c l who - keep) else ofV c l who := rfl
  have hcall := fun w hw => sRights_calls c a m cp l who hm w hw
  obtain ⟨n, q, r, p, kk, cc⟩ := c
  obtain ⟨S, HS⟩ : ∃ z, Hid (spareV ⟨n, q, r, p, kk, cc⟩ l who keep = z) := ⟨_, rfl⟩
  obtain ⟨o, Ho⟩ : ∃ z, Hid (ofV ⟨n, q, r, p, kk, cc⟩ l who = z) := ⟨_, rfl⟩
  rw [HS.out] at hsp ⊢
  rw [Ho.out] at hsp hbd hcall
  obtain ⟨hbd0, hbd1⟩ := hbd
  have HSp : Hid (S = max (o - max keep 0) 0) := by
    show S = _
    rw [hsp]
    split
    · split <;> omega
    · omega
  have Hcall := Lib.hid hcall
  have HB := Lib.hid hB
  clear hsp hcall hB hm
  obtain ⟨k2, Hk2⟩ : ∃ z, Hid (max keep 0 = z) := ⟨_, rfl⟩
  have hk2 : 0 ≤ k2 := by rw [← Hk2.out]; omega
  have Hmax : Hid (∀ w : World, (Builtin.max_ #[2, 2] 2 #[.int .i64 keep, .int .i64 0]).run Try.prog w = .ok (.int .i64 k2) w) := fun w => by rw [Lib.run_max_ints, Hk2.out]
  obtain ⟨d0, d1, d2, d3, d4, d5, d6⟩ := sh_cells HW.out
  simp only at d0 d1 d2 d3 d4 d5 d6
  go_enter Try.func19, Try.ntmps19
  go_wp2_with fail
  refine (Hcall.out _ (HB.out.later Hb0.out)).mono ?_
  rintro e w1 ⟨rfl, hb⟩
  have Hb1 := Lib.hid (held_next Hb0.out hb)
  clear hb
  have hmx := Hmax.out
  have hkm : keep ≤ k2 := by rw [← Hk2.out]; omega
  by_cases hkk : keep ≤ 0
  · obtain rfl : k2 = 0 := by rw [← Hk2.out]; omega
    have hS : S = o := by rw [HSp.out, Hk2.out]; omega
    subst hS
    clear hkm hk2
    go_wp2_with fail
    go_ret
    exact ⟨by rw [show max S 0 = S by omega]; rfl, Hb1.out⟩
  · obtain rfl : k2 = keep := by rw [← Hk2.out]; omega
    by_cases hko : o ≤ k2
    · obtain rfl : S = 0 := by rw [HSp.out, Hk2.out]; omega
      go_wp2_with fail
      go_ret
      exact ⟨by rw [show max (o - k2) 0 = 0 by omega]; rfl, Hb1.out⟩
    · obtain rfl : S = o - k2 := by rw [HSp.out, Hk2.out]; omega
      go_wp2_with fail
      go_ret
      exact ⟨by rw [show max (o - k2) 0 = o - k2 by omega]; rfl, Hb1.out⟩
end Go.Proofs.Ytkkhecdmjcffjaa
