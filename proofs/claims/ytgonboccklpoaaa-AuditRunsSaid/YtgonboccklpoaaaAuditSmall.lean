/- Package audit, walked: its small functions. No law is proved here. -/
import Derived.Test.YtgonboccklpoaaaAuditWords
import Derived.Test.YtgonboccklpoaaaClaimSmall
import Derived.Test.YtgonboccklpoaaaRightsCfg
import Derived.WalkSmall
namespace Go.Proofs.Ytgonboccklpoaaa
open Go.RowKit

theorem auwithin_calls (v lo hi : Int) (w : World) : Calls Try.prog 21 #[.int .i64 v, .int .i64 lo, .int .i64 hi] w (fun e w' => e = .returned (.bool (withinB v lo hi)) ∧ w = w') := by
  by_cases h1 : lo ≤ v
  · by_cases h2 : v ≤ hi
    · rw [withinB_yes ⟨h1, h2⟩]
      go_enter Try.func21, Try.ntmps21
      go_wp2
      go_ret
      exact ⟨by simp, rfl⟩
    · rw [withinB_no (fun h => h2 h.2)]
      go_enter Try.func21, Try.ntmps21
      go_wp2
      go_ret
      exact ⟨by simp, rfl⟩
  · rw [withinB_no (fun h => h1 h.1)]
    go_enter Try.func21, Try.ntmps21
    go_wp2
    go_ret
    exact ⟨by simp, rfl⟩
/-- is there such a replica, by a config that may be? -/
def amB (c : Cf) (who : Int) : Bool := decide (cfOk c ∧ (0 ≤ who ∧ who < c.n))
set_option maxRecDepth 100000 in
set_option maxHeartbeats 4000000 in
theorem auamong_calls (c : Cf) (who : Int) (w : World) : Calls Try.prog 20 #[cfV c, .int .i64 who] w (Says w (amB c who)) := by
  have HW := Lib.hid (Whole.made w 23 (cfCells c))
  have Hb0 := Lib.hid (below_box w (.cells (cfCells c) 23))
  obtain ⟨n, q, r, p, kk, cc⟩ := c
  obtain ⟨ok, Hok⟩ : ∃ z, Hid (cfB ⟨n, q, r, p, kk, cc⟩ = z) := ⟨_, rfl⟩
  obtain ⟨res, Hres⟩ : ∃ z, Hid (amB ⟨n, q, r, p, kk, cc⟩ who = z) := ⟨_, rfl⟩
  have no : ¬ (cfOk ⟨n, q, r, p, kk, cc⟩ ∧ (0 ≤ who ∧ who < n)) → res = false := fun h => Hres.out.symm.trans (decide_eq_false h)
  have yes : (cfOk ⟨n, q, r, p, kk, cc⟩ ∧ (0 ≤ who ∧ who < n)) → res = true := fun h => Hres.out.symm.trans (decide_eq_true h)
  have No := Lib.hid no; have Yes := Lib.hid yes; clear no yes
  rw [Hres.out]
  go_enter Try.func20, Try.ntmps20
  go_wp2_with fail
  refine (rMay_calls ⟨n, q, r, p, kk, cc⟩ _).mono ?_
  rintro e w1 ⟨rfl, hb⟩
  rw [Hok.out]
  have Hb1 := Lib.hid (held_next Hb0.out hb)
  have HW1 := Lib.hid (HW.out.later hb HW.out.lt)
  clear hb HW Hb0
  obtain ⟨d0, d1, d2, d3, d4, d5⟩ := config_cells HW1.out
  simp only at d0 d1 d2 d3 d4 d5
  cases ok with
  | false =>
    obtain rfl : res = false := No.out fun h => by
      have := cfB_yes h.1
      rw [Hok.out] at this
      cases this
    go_wp2_with fail
    go_ret
    exact ⟨by rfl, Hb1.out⟩
  | true =>
    by_cases h1 : 0 ≤ who
    · by_cases h2 : who < n
      · obtain rfl : res = true := Yes.out ⟨cfB_ok Hok.out, h1, h2⟩
        go_wp2_with fail
        go_ret
        exact ⟨by first | rfl | (simp; done) | (simp; omega), Hb1.out⟩
      · obtain rfl : res = false := No.out fun h => h2 h.2.2
        go_wp2_with fail
        go_ret
        exact ⟨by first | rfl | (simp; done) | (simp; omega), Hb1.out⟩
    · obtain rfl : res = false := No.out fun h => h1 h.2.1
      go_wp2_with fail
      go_ret
      exact ⟨by first | rfl | (simp; done) | (simp; omega), Hb1.out⟩
set_option maxRecDepth 100000 in
set_option maxHeartbeats 4000000 in
theorem aunone_calls (x : Au) (p : Al) (w : World) (h1 : p.m1 = x.told.length) (h2 : p.m2 = x.use.length) (h3 : p.m3 = x.inc.length) (hb : p.m1 ≤ 9223372036854775807 ∧ p.m2 ≤ 9223372036854775807 ∧ p.m3 ≤ 9223372036854775807) :
    Calls Try.prog 25 #[auAt x p] w (Says w (noneA x)) := by
  have Hb0 := Lib.hid (below_box w (.cells (auCells x (.slice p.a1 p.m1 p.c1) (.slice p.a2 p.m2 p.c2) (.slice p.a3 p.m3 p.c3)) 33))
  obtain ⟨tr, ph, told, use, inc, moved⟩ := x
  obtain ⟨a1, m1, c1, a2, m2, c2, a3, m3, c3⟩ := p
  obtain ⟨hb1, hb2, hb3⟩ := hb
  simp only at h1 h2 h3 hb1 hb2 hb3
  obtain ⟨res, Hres⟩ : ∃ z, Hid (noneA ⟨tr, ph, told, use, inc, moved⟩ = z) := ⟨_, rfl⟩
  rw [Hres.out]
  obtain ⟨z, Hz⟩ : ∃ z, Hid (decide (tr = 0 ∧ ph = 0) = z) := ⟨_, rfl⟩
  have hr : res = (z && decide (m1 = 0 ∧ m2 = 0 ∧ m3 = 0 ∧ moved = false)) := by
    rw [← Hres.out, ← Hz.out, h1, h2, h3]
    unfold noneA
    simp only [Au.mk.injEq, List.length_eq_zero_iff, ← Bool.decide_and, and_assoc]
  have HR := Lib.hid hr
  clear hr h1 h2 h3
  have heq : ∀ w : World, (binOp .eql 29 (.agg #[.int .i64 tr, .int .i64 ph]) (.agg #[.int .i64 0, .int .i64 0])).run Try.prog w = .ok (.bool z) w := fun w => (run_eql_lk w tr ph 0 0).trans (by rw [← Hz.out])
  go_enter Try.func25, Try.ntmps25
  cases z with
  | false =>
    obtain rfl : res = false := by rw [HR.out]; rfl
    go_wp2_with fail
    go_ret
    exact ⟨by rfl, Hb0.out⟩
  | true =>
      by_cases k3 : m1 = 0
      · subst k3
        by_cases k4 : m2 = 0
        · subst k4
          by_cases k5 : m3 = 0
          · subst k5
            cases moved with
            | false =>
              obtain rfl : res = true := by rw [HR.out]; simp
              go_wp2_with fail
              go_ret
              exact ⟨by rfl, Hb0.out⟩
            | true =>
              obtain rfl : res = false := by rw [HR.out]; simp
              go_wp2_with fail
              go_ret
              exact ⟨by rfl, Hb0.out⟩
          · obtain rfl : res = false := by rw [HR.out]; simp [k5]
            have k5' : ((m3 : Int) == 0) = false := beq_eq_false_iff_ne.2 (by omega)
            clear k5
            go_wp2_with fail
            go_ret
            exact ⟨by rfl, Hb0.out⟩
        · obtain rfl : res = false := by rw [HR.out]; simp [k4]
          have k4' : ((m2 : Int) == 0) = false := beq_eq_false_iff_ne.2 (by omega)
          clear k4
          go_wp2_with fail
          go_ret
          exact ⟨by rfl, Hb0.out⟩
      · obtain rfl : res = false := by rw [HR.out]; simp [k3]
        have k3' : ((m1 : Int) == 0) = false := beq_eq_false_iff_ne.2 (by omega)
        clear k3
        go_wp2_with fail
        go_ret
        exact ⟨by rfl, Hb0.out⟩
/-- as many amounts as there are replicas? -/
def amountsOk (c : Cf) (l : List Int) : Prop := (l.length : Int) = c.n ∧ ∀ i, i < l.length → 0 ≤ l[i]?.getD 0 ∧ l[i]?.getD 0 ≤ 1099511627776
instance (c : Cf) (l : List Int) : Decidable (amountsOk c l) := by unfold amountsOk; exact inferInstance
def amountsB (c : Cf) (l : List Int) : Bool := decide (amountsOk c l)
set_option maxRecDepth 100000 in
set_option maxHeartbeats 4000000 in
theorem auamounts_calls (c : Cf) (a : Option Addr) (m d : Nat) (l : List Int) (hm : m = l.length) (w : World) (hN : Nums w (.slice a m d) l) : Calls Try.prog 41 #[cfV c, .slice a m d] w (Says w (amountsB c l)) := by
  have HW := Lib.hid (Whole.made w 23 (cfCells c))
  have Hb0 := Lib.hid (below_box w (.cells (cfCells c) 23))
  have hbig : m ≤ 9223372036854775807 := by rw [hm]; exact hN.1
  have HN := Lib.hid hN; clear hN
  have Hm := Lib.hid hm; clear hm
  obtain ⟨n, q, r, p, kk, cc⟩ := c
  obtain ⟨res, Hres⟩ : ∃ z, Hid (amountsB ⟨n, q, r, p, kk, cc⟩ l = z) := ⟨_, rfl⟩
  have no : ¬ amountsOk ⟨n, q, r, p, kk, cc⟩ l → res = false := fun h => Hres.out.symm.trans (decide_eq_false h)
  have No := Lib.hid no; clear no
  rw [Hres.out]
  obtain ⟨d0, d1, d2, d3, d4, d5⟩ := config_cells HW.out
  simp only at d0 d1 d2 d3 d4 d5
  go_enter Try.func41, Try.ntmps41
  by_cases h1 : (m : Int) = n
  rotate_left 1
  · have h1' : ((m : Int) != n) = true := bne_iff_ne.2 h1
    obtain rfl : res = false := No.out fun h => h1 (by have h9 := h.1; rw [Hm.out]; exact h9)
    clear h1
    go_wp2_with fail
    go_ret
    exact ⟨by rfl, Hb0.out⟩
  subst h1
  go_wp2_with fail
  clear d0 d1 d2 d3 d4 d5 HW
  go_loopw [14] (fun s wr => ∃ k : Nat, k ≤ m ∧ s = .int .i64 k ∧ Hid (∀ i, i < k → 0 ≤ l[i]?.getD 0 ∧ l[i]?.getD 0 ≤ 1099511627776) ∧ Hid (Below w.heap.size w wr)) (fun s _ => m - (intOf s).toNat)
  case atStart => exact ⟨0, Nat.zero_le _, rfl, fun z hz => absurd hz (Nat.not_lt_zero _), Hb0.out⟩
  case round =>
    obtain ⟨k, hk, rfl, Hl, Hb⟩ := hrel
    by_cases hlt : k < m
    · obtain ⟨b, off, rfl, _, u0⟩ := (HN.out.later Hb.out).at (i := k) (by have := Hm.out; omega)
      obtain ⟨y, Hy⟩ : ∃ z, Hid (l[k]?.getD 0 = z) := ⟨_, rfl⟩
      rw [Hy.out] at u0
      have k0 : (0 : Int) ≤ (k : Int) := by omega
      have k1 : (k : Int) < (m : Int) := by omega
      obtain ⟨v, Hv⟩ : ∃ z, Hid (withinB y 0 1099511627776 = z) := ⟨_, rfl⟩
      go_wp2_with fail
      refine (auwithin_calls y 0 1099511627776 _).mono ?_
      rw [Hv.out]
      rintro e w3 ⟨rfl, rfl⟩
      cases v with
      | false =>
        obtain rfl : res = false := No.out fun h => by
          have h9 := h.2 k (by have := Hm.out; omega)
          rw [Hy.out] at h9
          exact (of_decide_eq_false Hv.out) h9
        go_wp2_with fail
        go_ret
        exact ⟨by rfl, Hb.out⟩
      | true =>
        go_wp2_with fail
        go_roundw
        case rel => exact ⟨k + 1, by omega, by go_num, (fun z hz => by
          by_cases e : z = k
          · subst e; rw [Hy.out]; exact of_decide_eq_true Hv.out
          · exact Hl.out z (by omega)), Hb.out⟩
        case measure => simp [intOf]; omega
    · obtain rfl : res = true := Hres.out.symm.trans (decide_eq_true ⟨by show (l.length : Int) = m; rw [← Hm.out], fun i hi => Hl.out i (by have := Hm.out; omega)⟩)
      go_wp2_with fail
      go_ret
      exact ⟨by rfl, Hb.out⟩
end Go.Proofs.Ytgonboccklpoaaa
