/- Merged texts: RqCells, ClaimFits, MailKept. No law is proved here. -/
import Derived.Test.YtfpadcfahfanoaaMg6
import Derived.Test.YtfpadcfahfanoaaMg30
/- A request in a block of its own, cell by cell. No law is proved here. -/
namespace Go.Proofs.Ytfpadcfahfanoaa
open Go.RowKit

theorem rq_cells {wr : World} {g : Nat} {x : Rq} (h : Whole wr g 30 (rqCells x)) :
    wr.cell? ⟨g, 0, none⟩ = some (.int .i64 x.t) ∧ wr.cell? ⟨g, 1, none⟩ = some (.int .i64 x.a) ∧ wr.cell? ⟨g, 2, none⟩ = some (.int .i64 x.m) := ⟨h.cell 0, h.cell 1, h.cell 2⟩
end Go.Proofs.Ytfpadcfahfanoaa

/- Package claim, walked: may it be a note of that replica. No law is proved here. -/
namespace Go.Proofs.Ytfpadcfahfanoaa
open Go.RowKit

set_option maxRecDepth 100000 in
set_option maxHeartbeats 8000000 in
theorem head_calls (c : Cf) (who : Int) (x : Nt) (w : World) : Calls Try.prog 57 #[tdV c who x] w (Says w (headB c who x)) := by
  have HX := Lib.hid ((Whole.made w 82 (tdCells c who x)).alloc (.cells (rqCells ⟨x.t, x.a, x.m⟩) 30))
  have HQ := Lib.hid (Whole.made2 w (.cells (tdCells c who x) 82) 30 (rqCells ⟨x.t, x.a, x.m⟩))
  have Hb0 := Lib.hid (below_two w (.cells (tdCells c who x) 82) (.cells (rqCells ⟨x.t, x.a, x.m⟩) 30))
  obtain ⟨n, q, r, p, kk, cc⟩ := c
  obtain ⟨clk, t, a, m, asks, try_, ph⟩ := x
  obtain ⟨z0, Hz0⟩ : ∃ z, Hid (decide (t = 0 ∧ a = 0 ∧ m = 0) = z) := ⟨_, rfl⟩
  obtain ⟨mv, Hmv⟩ : ∃ z, Hid (mayB t a n = z) := ⟨_, rfl⟩
  obtain ⟨res, Hres⟩ : ∃ z, Hid (headB ⟨n, q, r, p, kk, cc⟩ who ⟨clk, t, a, m, asks, try_, ph⟩ = z) := ⟨_, rfl⟩
  have hres : res = (z0 || (mv && decide (a = who ∧ 0 < m ∧ m ≤ 1099511627776))) := by
    rw [← Hres.out, ← Hz0.out, ← Hmv.out]; rfl
  rw [Hres.out]
  try simp only at HX HQ Hb0
  go_enter Try.func57, Try.ntmps57
  go_wp2_with fail
  refine (none_calls t a m _).mono ?_
  rw [Hz0.out]
  rintro e w1 ⟨rfl, hb⟩
  have HX1 := Lib.hid (HX.out.later hb HX.out.lt)
  have HQ1 := Lib.hid (HQ.out.later hb HQ.out.lt)
  have Hb1 := Lib.hid (held_next Hb0.out hb)
  clear hb HX HQ Hb0
  cases z0 with
  | true =>
    obtain rfl : res = true := hres
    go_wp2_with fail
    go_ret
    exact ⟨by rfl, Hb1.out⟩
  | false =>
  rw [Bool.false_or] at hres
  have Hr := Lib.hid hres; clear hres
  obtain ⟨e0, e1, e2, e3, e4, e5, e6, e7, e8, e9, e10, e11, e12, e13⟩ := td_cells HX1.out
  obtain ⟨f0, f1, f2⟩ := rq_cells HQ1.out
  simp only at e0 e1 e2 e3 e4 e5 e6 e7 e8 e9 e10 e11 e12 e13 f0 f1 f2
  go_wp2_with fail
  refine (stampmay_calls t a n _).mono ?_
  rw [Hmv.out]
  rintro e w2 ⟨rfl, hb⟩
  have HX2 := Lib.hid (HX1.out.later hb HX1.out.lt)
  have HQ2 := Lib.hid (HQ1.out.later hb HQ1.out.lt)
  have Hb2 := Lib.hid (held_next Hb1.out hb)
  clear hb HX1 HQ1 Hb1 e0 e1 e2 e3 e4 e5 e6 e7 e8 e9 e10 e11 e12 e13 f0 f1 f2
  obtain ⟨e0, e1, e2, e3, e4, e5, e6, e7, e8, e9, e10, e11, e12, e13⟩ := td_cells HX2.out
  obtain ⟨f0, f1, f2⟩ := rq_cells HQ2.out
  simp only at e0 e1 e2 e3 e4 e5 e6 e7 e8 e9 e10 e11 e12 e13 f0 f1 f2
  have hr := Hr.out
  cases mv with
  | false =>
    obtain rfl : res = false := hr
    go_wp2_with fail
    go_ret
    exact ⟨by rfl, Hb2.out⟩
  | true =>
  rw [Bool.true_and] at hr
  by_cases h1 : a = who
  · by_cases h2 : 1 ≤ m
    · by_cases h3 : m ≤ 1099511627776
      · rw [decide_eq_true ⟨h1, by omega, h3⟩] at hr
        subst hr h1
        go_wp2_with fail
        go_ret
        exact ⟨by first | rfl | (simp; done) | (simp; omega), Hb2.out⟩
      · rw [decide_eq_false (fun h => h3 h.2.2)] at hr
        subst hr h1
        go_wp2_with fail
        go_ret
        exact ⟨by first | rfl | (simp; done) | (simp; omega), Hb2.out⟩
    · rw [decide_eq_false (fun h => h2 (by omega))] at hr
      subst hr h1
      go_wp2_with fail
      go_ret
      exact ⟨by first | rfl | (simp; done) | (simp; omega), Hb2.out⟩
  · rw [decide_eq_false (fun h => h1 h.1)] at hr
    subst hr
    have h1' : (a == who) = false := beq_eq_false_iff_ne.2 h1
    clear h1
    go_wp2_with fail
    go_ret
    exact ⟨by rfl, Hb2.out⟩
set_option maxRecDepth 100000 in
set_option maxHeartbeats 8000000 in
theorem fits_calls (c : Cf) (who : Int) (x : Nt) (w : World) : Calls Try.prog 40 #[tdV c who x] w (Says w (noteB c who x)) := by
  have HX := Lib.hid (Whole.made w 82 (tdCells c who x))
  have Hb0 := Lib.hid (below_box w (.cells (tdCells c who x) 82))
  have hC1 := fun w => clock_calls c who x w
  have hC2 := fun w => head_calls c who x w
  have hC3 := fun w => asks_calls c who x w
  have hC4 := fun w => look_calls c who x w
  obtain ⟨z1, Hz1⟩ : ∃ z, Hid (clockB x = z) := ⟨_, rfl⟩
  obtain ⟨z2, Hz2⟩ : ∃ z, Hid (headB c who x = z) := ⟨_, rfl⟩
  obtain ⟨z3, Hz3⟩ : ∃ z, Hid (asksB c x = z) := ⟨_, rfl⟩
  obtain ⟨z4, Hz4⟩ : ∃ z, Hid (lookB x.try_ x.ph = z) := ⟨_, rfl⟩
  obtain ⟨res, Hres⟩ : ∃ z, Hid (noteB c who x = z) := ⟨_, rfl⟩
  have hres : res = (z1 && (z2 && (z3 && z4))) := by
    rw [← Hres.out, ← Hz1.out, ← Hz2.out, ← Hz3.out, ← Hz4.out]; exact noteB_parts c who x
  rw [Hz1.out] at hC1
  rw [Hz2.out] at hC2
  rw [Hz3.out] at hC3
  rw [Hz4.out] at hC4
  rw [Hres.out]
  have HC1 := Lib.hid hC1; have HC2 := Lib.hid hC2; have HC3 := Lib.hid hC3; have HC4 := Lib.hid hC4
  have Hr := Lib.hid hres
  clear hC1 hC2 hC3 hC4 hres Hz1 Hz2 Hz3 Hz4 Hres
  obtain ⟨n, q, r, p, kk, cc⟩ := c
  obtain ⟨clk, t, a, m, asks, try_, ph⟩ := x
  try simp only at HX Hb0
  have HX0 := Lib.hid (HX.out.alloc (.cells #[.func (.func 56) #[] #[], .func (.func 57) #[] #[], .func (.func 58) #[] #[], .func (.func 59) #[] #[]] 79))
  have HS0 := Lib.hid (Whole.made2 w (.cells (tdCells ⟨n, q, r, p, kk, cc⟩ who ⟨clk, t, a, m, asks, try_, ph⟩) 82) 79 #[.func (.func 56) #[] #[], .func (.func 57) #[] #[], .func (.func 58) #[] #[], .func (.func 59) #[] #[]])
  have Hb9 := Lib.hid (below_two w (.cells (tdCells ⟨n, q, r, p, kk, cc⟩ who ⟨clk, t, a, m, asks, try_, ph⟩) 82) (.cells #[.func (.func 56) #[] #[], .func (.func 57) #[] #[], .func (.func 58) #[] #[], .func (.func 59) #[] #[]] 79))
  clear HX Hb0
  obtain ⟨e0, e1, e2, e3, e4, e5, e6, e7, e8, e9, e10, e11, e12, e13⟩ := td_cells HX0.out
  simp only at e0 e1 e2 e3 e4 e5 e6 e7 e8 e9 e10 e11 e12 e13
  have g0 := HS0.out.cell 0; have g1 := HS0.out.cell 1; have g2 := HS0.out.cell 2; have g3 := HS0.out.cell 3
  simp at g0 g1 g2 g3
  go_enter Try.func40, Try.ntmps40
  go_wp2_with fail
  refine wp_loop_rounds 5 ?_
  rw [rounds_succ]
  go_wp2_with fail
  refine (HC1.out _).mono ?_
  rintro e w1 ⟨rfl, hb⟩
  have HX1 := Lib.hid (HX0.out.later hb HX0.out.lt)
  have HS1 := Lib.hid (HS0.out.later hb HS0.out.lt)
  have Hb1 := Lib.hid (held_next Hb9.out hb)
  clear hb e0 e1 e2 e3 e4 e5 e6 e7 e8 e9 e10 e11 e12 e13 g0 g1 g2 g3
  obtain ⟨e0, e1, e2, e3, e4, e5, e6, e7, e8, e9, e10, e11, e12, e13⟩ := td_cells HX1.out
  simp only at e0 e1 e2 e3 e4 e5 e6 e7 e8 e9 e10 e11 e12 e13
  have g0 := HS1.out.cell 0; have g1 := HS1.out.cell 1; have g2 := HS1.out.cell 2; have g3 := HS1.out.cell 3
  simp at g0 g1 g2 g3
  have hr := Hr.out
  clear Hr
  cases z1 with
  | false =>
    obtain rfl : res = false := hr
    go_wp2_with fail
    go_ret
    exact ⟨by rfl, Hb1.out⟩
  | true =>
  rw [Bool.true_and] at hr
  have Hr := Lib.hid hr; clear hr
  go_wp2_with fail
  rw [rounds_succ]
  go_wp2_with fail
  refine (HC2.out _).mono ?_
  rintro e w2 ⟨rfl, hb⟩
  have HX2 := Lib.hid (HX1.out.later hb HX1.out.lt)
  have HS2 := Lib.hid (HS1.out.later hb HS1.out.lt)
  have Hb2 := Lib.hid (held_next Hb1.out hb)
  clear hb e0 e1 e2 e3 e4 e5 e6 e7 e8 e9 e10 e11 e12 e13 g0 g1 g2 g3
  obtain ⟨e0, e1, e2, e3, e4, e5, e6, e7, e8, e9, e10, e11, e12, e13⟩ := td_cells HX2.out
  simp only at e0 e1 e2 e3 e4 e5 e6 e7 e8 e9 e10 e11 e12 e13
  have g0 := HS2.out.cell 0; have g1 := HS2.out.cell 1; have g2 := HS2.out.cell 2; have g3 := HS2.out.cell 3
  simp at g0 g1 g2 g3
  have hr := Hr.out
  clear Hr
  cases z2 with
  | false =>
    obtain rfl : res = false := hr
    go_wp2_with fail
    go_ret
    exact ⟨by rfl, Hb2.out⟩
  | true =>
  rw [Bool.true_and] at hr
  have Hr := Lib.hid hr; clear hr
  go_wp2_with fail
  rw [rounds_succ]
  go_wp2_with fail
  refine (HC3.out _).mono ?_
  rintro e w3 ⟨rfl, hb⟩
  have HX3 := Lib.hid (HX2.out.later hb HX2.out.lt)
  have HS3 := Lib.hid (HS2.out.later hb HS2.out.lt)
  have Hb3 := Lib.hid (held_next Hb2.out hb)
  clear hb e0 e1 e2 e3 e4 e5 e6 e7 e8 e9 e10 e11 e12 e13 g0 g1 g2 g3
  obtain ⟨e0, e1, e2, e3, e4, e5, e6, e7, e8, e9, e10, e11, e12, e13⟩ := td_cells HX3.out
  simp only at e0 e1 e2 e3 e4 e5 e6 e7 e8 e9 e10 e11 e12 e13
  have g0 := HS3.out.cell 0; have g1 := HS3.out.cell 1; have g2 := HS3.out.cell 2; have g3 := HS3.out.cell 3
  simp at g0 g1 g2 g3
  have hr := Hr.out
  clear Hr
  cases z3 with
  | false =>
    obtain rfl : res = false := hr
    go_wp2_with fail
    go_ret
    exact ⟨by rfl, Hb3.out⟩
  | true =>
  rw [Bool.true_and] at hr
  have Hr := Lib.hid hr; clear hr
  go_wp2_with fail
  rw [rounds_succ]
  go_wp2_with fail
  refine (HC4.out _).mono ?_
  rintro e w4 ⟨rfl, hb⟩
  have HX4 := Lib.hid (HX3.out.later hb HX3.out.lt)
  have HS4 := Lib.hid (HS3.out.later hb HS3.out.lt)
  have Hb4 := Lib.hid (held_next Hb3.out hb)
  clear hb e0 e1 e2 e3 e4 e5 e6 e7 e8 e9 e10 e11 e12 e13 g0 g1 g2 g3
  obtain ⟨e0, e1, e2, e3, e4, e5, e6, e7, e8, e9, e10, e11, e12, e13⟩ := td_cells HX4.out
  simp only at e0 e1 e2 e3 e4 e5 e6 e7 e8 e9 e10 e11 e12 e13
  have g0 := HS4.out.cell 0; have g1 := HS4.out.cell 1; have g2 := HS4.out.cell 2; have g3 := HS4.out.cell 3
  simp at g0 g1 g2 g3
  have hr := Hr.out
  clear Hr
  cases z4 with
  | false =>
    obtain rfl : res = false := hr
    go_wp2_with fail
    go_ret
    exact ⟨by rfl, Hb4.out⟩
  | true =>
  obtain rfl : res = true := hr
  go_wp2_with fail
  rw [rounds_succ]
  go_wp2_with fail
  go_ret
  exact ⟨by rfl, Hb4.out⟩
end Go.Proofs.Ytfpadcfahfanoaa

/- A config and a message in two boxes. No function of the program in it. No law is proved here. -/
namespace Go.Proofs.Ytfpadcfahfanoaa
open Go.RowKit

/-- a config and a message in two boxes behind what was there -/
def KeptM (w : World) (g : Nat) (c : Cf) (x : Ml) (rv ev : Value) (wx : World) : Prop := Below w.heap.size w wx ∧ Whole wx g 23 (cfCells c) ∧ Whole wx (g + 1) 35 (mlCells x rv ev)
theorem KeptM.later {w : World} {g : Nat} {c : Cf} {x : Ml} {rv ev : Value} {wx wy : World} (h : KeptM w g c x rv ev wx) (hb : Below wx.heap.size wx wy) : KeptM w g c x rv ev wy := ⟨held_next h.1 hb, h.2.1.later hb h.2.1.lt, h.2.2.later hb h.2.2.lt⟩
theorem ml_cells {w : World} {g : Nat} {x : Ml} {rv ev : Value} (h : Whole w g 35 (mlCells x rv ev)) :
    w.cell? ⟨g, 0, none⟩ = some (.int .i64 x.fr) ∧ w.cell? ⟨g, 1, none⟩ = some (.int .i64 x.to) ∧ w.cell? ⟨g, 2, none⟩ = some (.int .i64 x.clk) ∧ w.cell? ⟨g, 3, none⟩ = some rv ∧ w.cell? ⟨g, 4, none⟩ = some (.int .i64 x.t) ∧ w.cell? ⟨g, 5, none⟩ = some (.int .i64 x.a) ∧
    w.cell? ⟨g, 6, none⟩ = some (.int .i64 x.m) ∧ w.cell? ⟨g, 7, none⟩ = some (.int .i64 x.asks) ∧ w.cell? ⟨g, 8, none⟩ = some (.int .i64 x.try_) ∧ w.cell? ⟨g, 9, none⟩ = some (.int .i64 x.ph) ∧ w.cell? ⟨g, 10, none⟩ = some ev :=
  ⟨h.cell 0, h.cell 1, h.cell 2, h.cell 3, h.cell 4, h.cell 5, h.cell 6, h.cell 7, h.cell 8, h.cell 9, h.cell 10⟩
end Go.Proofs.Ytfpadcfahfanoaa
