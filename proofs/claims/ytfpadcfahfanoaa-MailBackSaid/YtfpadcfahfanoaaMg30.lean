/- Merged texts: RqEql, StampMay, RefClaimNeq, ClaimSmall. No law is proved here. -/
import Derived.Test.YtfpadcfahfanoaaMg6
import Derived.WalkKit
import Derived.ProofKit
import Derived.WalkLawsBesides
import Derived.ChangeSame
import Derived.Deep.QuietTactic
import Derived.BigQuiet
import Derived.OpenShut
import Derived.WalkSpells
import Derived.Lib.Hide
import Derived.Deep.Draws
import Derived.Deep.Slices
import Derived.Deep.Fields
import Derived.RegionTactic
import Derived.LoopTactic
import Derived.IntWalk
import Derived.Deep.DeepCutAuto
/- Two requests, by == : their fields. No law is proved here. -/
namespace Go.Proofs.Ytfpadcfahfanoaa
open Go.RowKit

theorem run_eql_rqs (w : World) (x y : Rq) : (binOp .eql 30 (rqV x) (rqV y)).run Try.prog w = .ok (.bool (decide (x = y))) w := by
  obtain ⟨t, a, m⟩ := x
  obtain ⟨u, b, n⟩ := y
  by_cases h1 : t = u
  · subst h1
    by_cases h2 : a = b
    · subst h2
      by_cases h3 : m = n
      · subst h3; simp [go_sem, Try.underlying30, Try.underlying28]
      · simp [go_sem, Try.underlying30, Try.underlying28, h3]
    · simp [go_sem, Try.underlying30, Try.underlying28, h2]
  · simp [go_sem, Try.underlying30, Try.underlying28, h1]
end Go.Proofs.Ytfpadcfahfanoaa

/- Stamps by value: the walk of May, by what it answers. No law is proved here. -/
namespace Go.Proofs.Ytfpadcfahfanoaa
open Go.RowKit

set_option maxHeartbeats 400000 in
theorem stampmay_calls (t a n : Int) (w : World) :
    Calls Try.prog 70 #[stampV t a, .int .i64 n] w (Says w (mayB t a n)) := by
  by_cases h : 1 ≤ t ∧ t ≤ 1125899906842624 ∧ 0 ≤ a ∧ a < n
  · rw [mayB_yes h]
    obtain ⟨h1, h2, h3, h4⟩ := h
    go_enter Try.func70, Try.ntmps70
    go_wp2_with fail
    go_ret
    exact ⟨by simp_all, below_box _ _⟩
  · rw [mayB_no h]
    by_cases h1 : 1 ≤ t
    · by_cases h2 : t ≤ 1125899906842624
      · by_cases h3 : 0 ≤ a
        · have h4 : ¬ a < n := by omega
          clear h
          go_enter Try.func70, Try.ntmps70
          go_wp2_with fail
          go_ret
          exact ⟨by simp_all, below_box _ _⟩
        · clear h
          go_enter Try.func70, Try.ntmps70
          go_wp2_with fail
          go_ret
          exact ⟨by simp_all, below_box _ _⟩
      · clear h
        go_enter Try.func70, Try.ntmps70
        go_wp2_with fail
        go_ret
        exact ⟨by simp_all, below_box _ _⟩
    · clear h
      go_enter Try.func70, Try.ntmps70
      go_wp2_with fail
      go_ret
      exact ⟨by simp_all, below_box _ _⟩
end Go.Proofs.Ytfpadcfahfanoaa

/- Two notes, by != : their fields. No law is proved here. -/
namespace Go.Proofs.Ytfpadcfahfanoaa
open Go.RowKit

set_option maxHeartbeats 4000000 in
theorem run_neq_nt (w : World) (x y : Nt) : (binOp .neq 70 (ntV x) (ntV y)).run Try.prog w = .ok (.bool (!decide ((x : Nt) = y))) w := by
  obtain ⟨x0, x1, x2, x3, x4, x5, x6⟩ := x
  obtain ⟨y0, y1, y2, y3, y4, y5, y6⟩ := y
  by_cases h0 : x0 = y0
  · subst h0
    by_cases h1 : x1 = y1
    · subst h1
      by_cases h2 : x2 = y2
      · subst h2
        by_cases h3 : x3 = y3
        · subst h3
          by_cases h4 : x4 = y4
          · subst h4
            by_cases h5 : x5 = y5
            · subst h5
              by_cases h6 : x6 = y6
              · subst h6
                simp [go_sem, Try.underlying70, Try.underlying30, Try.underlying28, Try.underlying32]
              · have g6 : (x6 == y6) = false := beq_eq_false_iff_ne.2 h6
                simp [go_sem, Try.underlying70, Try.underlying30, Try.underlying28, Try.underlying32, h6]
            · have g5 : (x5 == y5) = false := beq_eq_false_iff_ne.2 h5
              simp [go_sem, Try.underlying70, Try.underlying30, Try.underlying28, Try.underlying32, h5]
          · have g4 : (x4 == y4) = false := beq_eq_false_iff_ne.2 h4
            simp [go_sem, Try.underlying70, Try.underlying30, Try.underlying28, Try.underlying32, h4]
        · have g3 : (x3 == y3) = false := beq_eq_false_iff_ne.2 h3
          simp [go_sem, Try.underlying70, Try.underlying30, Try.underlying28, Try.underlying32, h3]
      · have g2 : (x2 == y2) = false := beq_eq_false_iff_ne.2 h2
        simp [go_sem, Try.underlying70, Try.underlying30, Try.underlying28, Try.underlying32, h2]
    · have g1 : (x1 == y1) = false := beq_eq_false_iff_ne.2 h1
      simp [go_sem, Try.underlying70, Try.underlying30, Try.underlying28, Try.underlying32, h1]
  · have g0 : (x0 == y0) = false := beq_eq_false_iff_ne.2 h0
    simp [go_sem, Try.underlying70, Try.underlying30, Try.underlying28, Try.underlying32, h0]
end Go.Proofs.Ytfpadcfahfanoaa

/- Package claim, walked: its small functions, and whether a note fits. No law is proved here. -/
namespace Go.Proofs.Ytfpadcfahfanoaa
open Go.RowKit

/-- a config, a replica and a note in one: fourteen cells -/
abbrev tdV (c : Cf) (who : Int) (x : Nt) : Value := .agg #[.int .i64 c.n, .int .i64 c.q, .int .i64 c.r, .int .i64 c.p, .int .i64 c.k, .int .i64 c.c, .int .i64 who, .int .i64 x.clk, .int .i64 x.t, .int .i64 x.a, .int .i64 x.m, .int .i64 x.asks, .int .i64 x.try_, .int .i64 x.ph]
abbrev tdCells (c : Cf) (who : Int) (x : Nt) : Array Value := #[.int .i64 c.n, .int .i64 c.q, .int .i64 c.r, .int .i64 c.p, .int .i64 c.k, .int .i64 c.c, .int .i64 who, .int .i64 x.clk, .int .i64 x.t, .int .i64 x.a, .int .i64 x.m, .int .i64 x.asks, .int .i64 x.try_, .int .i64 x.ph]
theorem run_eql_lk (w : World) (t p u q : Int) : (binOp .eql 32 (.agg #[.int .i64 t, .int .i64 p]) (.agg #[.int .i64 u, .int .i64 q])).run Try.prog w = .ok (.bool (decide (t = u ∧ p = q))) w := by
  by_cases h1 : t = u
  · subst h1
    by_cases h2 : p = q
    · subst h2; simp [go_sem, Try.underlying32]
    · simp [go_sem, Try.underlying32, h2]
  · simp [go_sem, Try.underlying32, h1]
theorem run_neq_lk (w : World) (t p u q : Int) : (binOp .neq 32 (.agg #[.int .i64 t, .int .i64 p]) (.agg #[.int .i64 u, .int .i64 q])).run Try.prog w = .ok (.bool (!decide (t = u ∧ p = q))) w := by
  by_cases h1 : t = u
  · subst h1
    by_cases h2 : p = q
    · subst h2; simp [go_sem, Try.underlying32]
    · simp [go_sem, Try.underlying32, h2]
  · simp [go_sem, Try.underlying32, h1]
set_option maxHeartbeats 4000000 in
theorem none_calls (t a m : Int) (w : World) : Calls Try.prog 69 #[rqV ⟨t, a, m⟩] w (Says w (decide (t = 0 ∧ a = 0 ∧ m = 0))) := by
  obtain ⟨z, Hz⟩ : ∃ z, Hid (decide (t = 0 ∧ a = 0 ∧ m = 0) = z) := ⟨_, rfl⟩
  have heq : ∀ w : World, (binOp .eql 30 (.agg #[.int .i64 t, .int .i64 a, .int .i64 m]) (.agg #[.int .i64 0, .int .i64 0, .int .i64 0])).run Try.prog w = .ok (.bool z) w := fun w => (run_eql_rqs w ⟨t, a, m⟩ ⟨0, 0, 0⟩).trans (by rw [← Hz.out]; simp)
  rw [Hz.out]
  have Hb0 := Lib.hid (below_box w (.cells (rqCells ⟨t, a, m⟩) 30))
  go_enter Try.func69, Try.ntmps69
  go_wp2_with fail
  go_ret
  exact ⟨by rfl, Hb0.out⟩
set_option maxHeartbeats 4000000 in
theorem amongc_calls (c : Cf) (who : Int) (w : World) : Calls Try.prog 39 #[cfV c, .int .i64 who] w (Says w (decide (0 ≤ who ∧ who < c.n))) := by
  have Hb0 := Lib.hid (below_box w (.cells (cfCells c) 23))
  obtain ⟨n, q, r, p, kk, cc⟩ := c
  simp only
  by_cases h1 : 0 ≤ who
  · by_cases h2 : who < n
    · rw [decide_eq_true ⟨h1, h2⟩]
      go_enter Try.func39, Try.ntmps39
      go_wp2_with fail
      go_ret
      exact ⟨by simp, Hb0.out⟩
    · rw [decide_eq_false (fun h => h2 h.2)]
      go_enter Try.func39, Try.ntmps39
      go_wp2_with fail
      go_ret
      exact ⟨by first | (simp; done) | (simp; omega), Hb0.out⟩
  · rw [decide_eq_false (fun h => h1 h.1)]
    go_enter Try.func39, Try.ntmps39
    go_wp2_with fail
    go_ret
    exact ⟨by simp, Hb0.out⟩
set_option maxRecDepth 100000 in
set_option maxHeartbeats 4000000 in
theorem looks_calls (t p : Int) (w : World) : Calls Try.prog 60 #[.agg #[.int .i64 t, .int .i64 p]] w (Says w (lookB t p)) := by
  obtain ⟨res, Hres⟩ : ∃ z, Hid (lookB t p = z) := ⟨_, rfl⟩
  rw [Hres.out]
  have yes : lookOk t p → res = true := fun h => Hres.out.symm.trans (decide_eq_true h)
  have no : ¬ lookOk t p → res = false := fun h => Hres.out.symm.trans (decide_eq_false h)
  have Yes := Lib.hid yes; have No := Lib.hid no; clear yes no
  have Hb0 := Lib.hid (below_box w (.cells #[.int .i64 t, .int .i64 p] 32))
  obtain ⟨z, Hz⟩ : ∃ z, Hid (decide (t = 0 ∧ p = 0) = z) := ⟨_, rfl⟩
  have heq : ∀ w : World, (binOp .eql 32 (.agg #[.int .i64 t, .int .i64 p]) (.agg #[.int .i64 0, .int .i64 0])).run Try.prog w = .ok (.bool z) w := fun w => (run_eql_lk w t p 0 0).trans (by rw [← Hz.out])
  cases z with
  | true =>
    obtain rfl := Yes.out (Or.inl (of_decide_eq_true Hz.out))
    go_enter Try.func60, Try.ntmps60
    go_wp2_with fail
    go_ret
    exact ⟨by rfl, Hb0.out⟩
  | false =>
    have Hz2 := Lib.hid (of_decide_eq_false Hz.out)
    by_cases h1 : 1 ≤ t
    · by_cases h2 : t ≤ 1125899906842624
      · by_cases h3 : p = 1
        · subst h3
          obtain rfl := Yes.out (Or.inr ⟨by omega, h2, by decide, by decide⟩)
          go_enter Try.func60, Try.ntmps60
          go_wp2_with fail
          go_ret
          exact ⟨by first | rfl | (simp; done) | (simp; omega), Hb0.out⟩
        · have s3 : (p == 1) = false := beq_eq_false_iff_ne.2 h3
          by_cases h4 : p = 2
          · subst h4
            obtain rfl := Yes.out (Or.inr ⟨by omega, h2, by decide, by decide⟩)
            go_enter Try.func60, Try.ntmps60
            go_wp2_with fail
            go_ret
            exact ⟨by first | rfl | (simp; done) | (simp; omega), Hb0.out⟩
          · have s4 : (p == 2) = false := beq_eq_false_iff_ne.2 h4
            have n3 := Lib.hid h3; have n4 := Lib.hid h4; clear h3 h4
            obtain rfl := No.out (fun h => by have h9 := Hz2.out; have := n3.out; have := n4.out; rcases h with h | h; exact h9 h; omega)
            go_enter Try.func60, Try.ntmps60
            go_wp2_with fail
            go_ret
            exact ⟨by first | rfl | (simp; done) | (simp; omega), Hb0.out⟩
      ·
        obtain rfl := No.out (fun h => by have h9 := Hz2.out; rcases h with h | h; exact h9 h; omega)
        go_enter Try.func60, Try.ntmps60
        go_wp2_with fail
        go_ret
        exact ⟨by first | rfl | (simp; done) | (simp; omega), Hb0.out⟩
    ·
      obtain rfl := No.out (fun h => by have h9 := Hz2.out; rcases h with h | h; exact h9 h; omega)
      go_enter Try.func60, Try.ntmps60
      go_wp2_with fail
      go_ret
      exact ⟨by first | rfl | (simp; done) | (simp; omega), Hb0.out⟩

/-- the fourteen cells -/
theorem td_cells {w : World} {g : Nat} {c : Cf} {who : Int} {x : Nt} (h : Whole w g 82 (tdCells c who x)) :
    w.cell? ⟨g, 0, none⟩ = some (.int .i64 c.n) ∧ w.cell? ⟨g, 1, none⟩ = some (.int .i64 c.q) ∧ w.cell? ⟨g, 2, none⟩ = some (.int .i64 c.r) ∧ w.cell? ⟨g, 3, none⟩ = some (.int .i64 c.p) ∧ w.cell? ⟨g, 4, none⟩ = some (.int .i64 c.k) ∧ w.cell? ⟨g, 5, none⟩ = some (.int .i64 c.c) ∧ w.cell? ⟨g, 6, none⟩ = some (.int .i64 who) ∧
    w.cell? ⟨g, 7, none⟩ = some (.int .i64 x.clk) ∧ w.cell? ⟨g, 8, none⟩ = some (.int .i64 x.t) ∧ w.cell? ⟨g, 9, none⟩ = some (.int .i64 x.a) ∧ w.cell? ⟨g, 10, none⟩ = some (.int .i64 x.m) ∧ w.cell? ⟨g, 11, none⟩ = some (.int .i64 x.asks) ∧ w.cell? ⟨g, 12, none⟩ = some (.int .i64 x.try_) ∧ w.cell? ⟨g, 13, none⟩ = some (.int .i64 x.ph) :=
  ⟨h.cell 0, h.cell 1, h.cell 2, h.cell 3, h.cell 4, h.cell 5, h.cell 6, h.cell 7, h.cell 8, h.cell 9, h.cell 10, h.cell 11, h.cell 12, h.cell 13⟩
def clockB (x : Nt) : Bool := decide (0 ≤ x.clk ∧ x.clk ≤ 1125899906842624)
def headB (c : Cf) (who : Int) (x : Nt) : Bool := noHead x || hasHead c who x
def asksB (c : Cf) (x : Nt) : Bool := decide (0 ≤ x.asks ∧ x.asks ≤ c.r)
theorem noteB_parts (c : Cf) (who : Int) (x : Nt) : noteB c who x = (clockB x && (headB c who x && (asksB c x && lookB x.try_ x.ph))) := rfl

set_option maxRecDepth 100000 in
set_option maxHeartbeats 4000000 in
theorem clock_calls (c : Cf) (who : Int) (x : Nt) (w : World) : Calls Try.prog 56 #[tdV c who x] w (Says w (clockB x)) := by
  have Hb0 := Lib.hid (below_box w (.cells (tdCells c who x) 82))
  obtain ⟨n, q, r, p, kk, cc⟩ := c
  obtain ⟨clk, t, a, m, asks, try_, ph⟩ := x
  obtain ⟨res, Hres⟩ : ∃ z, Hid (decide (0 ≤ clk ∧ clk ≤ 1125899906842624) = z) := ⟨_, rfl⟩
  show Calls _ _ _ _ (Says w (decide (0 ≤ clk ∧ clk ≤ 1125899906842624)))
  rw [Hres.out]
  by_cases h1 : 0 ≤ clk
  · by_cases h2 : clk ≤ 1125899906842624
    · obtain rfl : res = true := Hres.out.symm.trans (decide_eq_true ⟨h1, h2⟩)
      go_enter Try.func56, Try.ntmps56
      go_wp2_with fail
      go_ret
      exact ⟨by first | rfl | (simp; done) | (simp; omega), Hb0.out⟩
    · obtain rfl : res = false := Hres.out.symm.trans (decide_eq_false (fun h => h2 h.2))
      go_enter Try.func56, Try.ntmps56
      go_wp2_with fail
      go_ret
      exact ⟨by first | rfl | (simp; done) | (simp; omega), Hb0.out⟩
  · obtain rfl : res = false := Hres.out.symm.trans (decide_eq_false (fun h => h1 h.1))
    go_enter Try.func56, Try.ntmps56
    go_wp2_with fail
    go_ret
    exact ⟨by first | rfl | (simp; done) | (simp; omega), Hb0.out⟩
set_option maxRecDepth 100000 in
set_option maxHeartbeats 4000000 in
theorem asks_calls (c : Cf) (who : Int) (x : Nt) (w : World) : Calls Try.prog 58 #[tdV c who x] w (Says w (asksB c x)) := by
  have Hb0 := Lib.hid (below_box w (.cells (tdCells c who x) 82))
  obtain ⟨n, q, r, p, kk, cc⟩ := c
  obtain ⟨clk, t, a, m, asks, try_, ph⟩ := x
  obtain ⟨res, Hres⟩ : ∃ z, Hid (decide (0 ≤ asks ∧ asks ≤ r) = z) := ⟨_, rfl⟩
  show Calls _ _ _ _ (Says w (decide (0 ≤ asks ∧ asks ≤ r)))
  rw [Hres.out]
  by_cases h1 : 0 ≤ asks
  · by_cases h2 : asks ≤ r
    · obtain rfl : res = true := Hres.out.symm.trans (decide_eq_true ⟨h1, h2⟩)
      go_enter Try.func58, Try.ntmps58
      go_wp2_with fail
      go_ret
      exact ⟨by first | rfl | (simp; done) | (simp; omega), Hb0.out⟩
    · obtain rfl : res = false := Hres.out.symm.trans (decide_eq_false (fun h => h2 h.2))
      go_enter Try.func58, Try.ntmps58
      go_wp2_with fail
      go_ret
      exact ⟨by first | rfl | (simp; done) | (simp; omega), Hb0.out⟩
  · obtain rfl : res = false := Hres.out.symm.trans (decide_eq_false (fun h => h1 h.1))
    go_enter Try.func58, Try.ntmps58
    go_wp2_with fail
    go_ret
    exact ⟨by first | rfl | (simp; done) | (simp; omega), Hb0.out⟩
set_option maxRecDepth 100000 in
set_option maxHeartbeats 4000000 in
theorem look_calls (c : Cf) (who : Int) (x : Nt) (w : World) : Calls Try.prog 59 #[tdV c who x] w (Says w (lookB x.try_ x.ph)) := by
  have Hb0 := Lib.hid (below_box w (.cells (tdCells c who x) 82))
  obtain ⟨n, q, r, p, kk, cc⟩ := c
  obtain ⟨clk, t, a, m, asks, try_, ph⟩ := x
  simp only
  obtain ⟨res, Hres⟩ : ∃ z, Hid (lookB try_ ph = z) := ⟨_, rfl⟩
  rw [Hres.out]
  go_enter Try.func59, Try.ntmps59
  go_wp2_with fail
  refine (looks_calls try_ ph _).mono ?_
  rw [Hres.out]
  rintro e w1 ⟨rfl, hb⟩
  have Hb1 := Lib.hid (held_next Hb0.out hb)
  clear hb
  go_wp2_with fail
  go_ret
  exact ⟨by rfl, Hb1.out⟩
set_option maxRecDepth 100000 in
set_option maxHeartbeats 4000000 in
theorem said_calls (x : Ml) (a1 : Option Addr) (m1 c1 : Nat) (a2 : Option Addr) (m2 c2 : Nat) (w : World) : Calls Try.prog 41 #[mlV x (.slice a1 m1 c1) (.slice a2 m2 c2)] w (fun e w' => e = .returned (ntV (noteOf x)) ∧ Below w.heap.size w w') := by
  obtain ⟨fr, tg, clk, rows, t, a, m, asks, try_, ph, echo⟩ := x
  go_enter Try.func41, Try.ntmps41
  go_wp2_with fail
  refine bodyPost_ret (v := ntV ⟨clk, t, a, m, asks, try_, ph⟩) (by simp [results, Try.results41, go_sem]) rfl ⟨rfl, ?_⟩
  exact below_two w _ _

end Go.Proofs.Ytfpadcfahfanoaa
