/- Package line, walked: May. No law is proved here. -/
import Derived.Test.YtefekkfocogghaaLineFault
namespace Go.Proofs.Ytefekkfocogghaa
open Go.RowKit

theorem fault_zero {c : Cf} {who : Int} {l : List Rq} {k : Nat} {x : Rq} : faultV c who l k x = 0 ↔ (k : Int) < c.q ∧ oneB c who x = true ∧ (0 < k → rqOld (rqAt l (k - 1)) x = true) := by
  by_cases h1 : x.m < 1 ∨ 1099511627776 < x.m
  · rw [fault_two h1]
    constructor
    · intro h; cases h
    · rintro ⟨_, h2, _⟩
      have := oneB_iff.1 h2
      unfold oneOk at this
      omega
  · by_cases h2 : c.q ≤ (k : Int)
    · rw [fault_three h1 h2]
      constructor
      · intro h; cases h
      · rintro ⟨h, _⟩; omega
    · by_cases h3 : mayB x.t x.a c.n = true ∧ x.a = who
      · rw [fault_last h1 (by omega) h3]
        have ho : oneB c who x = true := by unfold oneB; rw [h3.1]; simp; omega
        by_cases h4 : 0 < k ∧ rqOld (rqAt l (k - 1)) x = false
        · rw [if_pos h4]
          constructor
          · intro h; cases h
          · rintro ⟨_, _, h⟩; rw [h h4.1] at h4; cases h4.2
        · rw [if_neg h4]
          refine ⟨fun _ => ⟨by omega, ho, fun h => ?_⟩, fun _ => rfl⟩
          cases h5 : rqOld (rqAt l (k - 1)) x with
          | true => rfl
          | false => exact absurd ⟨h, h5⟩ h4
      · rw [fault_one h1 (by omega) h3]
        constructor
        · intro h; cases h
        · rintro ⟨_, h, _⟩
          have := oneB_iff.1 h
          unfold oneOk at this
          exact absurd ⟨mayB_yes (by omega), this.2.1⟩ h3
/-- a line may be, if each one of it might have joined those ahead -/
theorem lineB_faults {c : Cf} {who : Int} {l : List Rq} (h1 : cfB c = true) (h2 : 0 ≤ who ∧ who < c.n) (h3 : ∀ i, i < l.length → faultV c who l i (rqAt l i) = 0) : lineB c who l = true := by
  refine lineB_yes ⟨cfB_ok h1, h2, ?_, fun i hi => (fault_zero.1 (h3 i hi)).2⟩
  have hc := cfB_ok h1
  unfold cfOk at hc
  by_cases h0 : l.length = 0
  · omega
  · have := (fault_zero.1 (h3 (l.length - 1) (by omega))).1
    omega
theorem lineB_fault {c : Cf} {who : Int} {l : List Rq} {i : Nat} (hi : i < l.length) (h : faultV c who l i (rqAt l i) ≠ 0) : lineB c who l = false := lineB_no fun h2 => h (by
  obtain ⟨_, _, h3, h4⟩ := h2
  exact fault_zero.2 ⟨by omega, h4 i hi⟩)
theorem lineB_false' {c : Cf} {who : Int} {l : List Rq} {b : Bool} (hb : lineB c who l = b) (h : ¬ lineOk c who l) : b = false := hb.symm.trans (lineB_no h)
set_option maxRecDepth 100000 in
set_option maxHeartbeats 8000000 in
theorem lMay_calls (c : Cf) (who : Int) (a : Option Addr) (m cp : Nat) (l : List Rq) (hm : m = l.length) (hsmall : m ≤ 1000) (w : World) (hB : Line w (.slice a m cp) l) :
    Calls Try.prog 9 #[cfV c, .int .i64 who, .slice a m cp] w (Says w (lineB c who l)) := by
  have HW := Lib.hid (Whole.made w 23 (cfCells c))
  have Hb0 := Lib.hid (below_box w (.cells (cfCells c) 23))
  have HB := Lib.hid hB; clear hB
  have Hm := Lib.hid hm; clear hm
  obtain ⟨n, q, r, p, kk, cc⟩ := c
  obtain ⟨res, Hres⟩ : ∃ z, Hid (lineB ⟨n, q, r, p, kk, cc⟩ who l = z) := ⟨_, rfl⟩
  rw [Hres.out]
  obtain ⟨ok, Hok⟩ : ∃ z, Hid (cfB ⟨n, q, r, p, kk, cc⟩ = z) := ⟨_, rfl⟩
  go_enter Try.func9, Try.ntmps9
  go_wp2_with fail
  refine (rMay_calls ⟨n, q, r, p, kk, cc⟩ _).mono ?_
  rintro e w1 ⟨rfl, hb⟩
  rw [Hok.out]
  have Hb1 := Lib.hid (held_next Hb0.out hb)
  have HW1 := Lib.hid (HW.out.later hb HW.out.lt)
  clear hb
  obtain ⟨d0, d1, d2, d3, d4, d5⟩ := config_cells HW1.out
  simp only at d0 d1 d2 d3 d4 d5
  cases ok with
  | false =>
    obtain rfl : res = false := lineB_false' Hres.out fun h => by
      have := cfB_yes h.1
      rw [Hok.out] at this
      cases this
    go_wp2_with fail
    go_ret
    exact ⟨rfl, Hb1.out⟩
  | true =>
    by_cases h1 : who < 0
    · obtain rfl : res = false := lineB_false' Hres.out fun h => by have := h.2.1.1; omega
      go_wp2_with fail
      go_ret
      exact ⟨by rfl, Hb1.out⟩
    by_cases h2 : n ≤ who
    · obtain rfl : res = false := lineB_false' Hres.out fun h => by have : who < n := h.2.1.2; omega
      go_wp2_with fail
      go_ret
      exact ⟨by rfl, Hb1.out⟩
    have Hwho : Hid (0 ≤ who ∧ who < n) := by show _ ∧ _; omega
    go_wp2_with fail
    refine (faults_calls ⟨n, q, r, p, kk, cc⟩ who a m cp _).mono ?_
    rintro e w2 ⟨v, rfl, hC, hb⟩
    have Hb2 := Lib.hid (held_next Hb1.out hb)
    have HC := Lib.hid hC
    clear hb hC d0 d1 d2 d3 d4 d5
    obtain ⟨bc, bw, bl, rfl, q1, q2, q3⟩ := HC.out
    have Q1 := Lib.hid q1; clear q1
    have Q2 := Lib.hid q2; clear q2
    have Q3 := Lib.hid q3; clear q3
    go_wp2_with fail
    go_loopw [29] (fun s wr => ∃ k : Nat, k ≤ m ∧ s = .int .i64 k ∧ Hid (∀ i, i < k → faultV ⟨n, q, r, p, kk, cc⟩ who l i (rqAt l i) = 0) ∧ Hid (Below w2.heap.size w2 wr)) (fun s _ => m - (intOf s).toNat)
    case atStart => exact ⟨0, Nat.zero_le _, rfl, fun z hz => absurd hz (Nat.not_lt_zero _), Below.refl _ _⟩
    case round =>
      obtain ⟨k, hk, rfl, Hl, Hb⟩ := hrel
      by_cases hlt : k < m
      · obtain ⟨b, off, rfl, c0, c1, c2⟩ := (HB.out.later (held_next Hb2.out Hb.out)).at (i := k) (by have := Hm.out; omega)
        obtain ⟨x, Hx⟩ : ∃ z, Hid (rqAt l k = z) := ⟨_, rfl⟩
        rw [Hx.out] at c0 c1 c2
        obtain ⟨f, Hf⟩ : ∃ z, Hid (faultV ⟨n, q, r, p, kk, cc⟩ who l k x = z) := ⟨_, rfl⟩
        have k0 : (0 : Int) ≤ (k : Int) := by omega
        have k1 : (k : Int) < (m : Int) := by omega
        have Hbx := Lib.hid (held_next (below_next Hb.out Hb.out.size (below_box wr (.cells (rqCells x) 28))) (Below.refl _ _))
        have HX := Lib.hid (Whole.made wr 28 (rqCells x))
        obtain ⟨f0, f1, f2⟩ := rq_cells HX.out
        obtain ⟨t, u, v⟩ := x
        simp only at c0 c1 c2 f0 f1 f2
        go_wp2_with fail
        refine (fault_calls ⟨n, q, r, p, kk, cc⟩ who _ m cp l k ⟨t, u, v⟩ Hm.out hk bc bw bl _ (HB.out.later (held_next Hb2.out Hbx.out)) (Q1.out.later Hbx.out Q1.out.lt) (cell_later Hbx.out Q2.out) (cell_later Hbx.out Q3.out)).mono ?_
        rw [Hf.out]
        rintro e w3 ⟨rfl, hb⟩
        have Hb3 := Lib.hid (held_next Hbx.out hb)
        clear hb c0 c1 c2 f0 f1 f2
        by_cases hf : f = 0
        · subst hf
          go_wp2_with fail
          go_roundw
          case rel => exact ⟨k + 1, by omega, by go_num, (fun z hz => by
            by_cases e : z = k
            · subst e; rw [Hx.out]; exact Hf.out
            · exact Hl.out z (by omega)), Hb3.out⟩
          case measure => simp [intOf]; omega
        · obtain rfl : res = false := Hres.out.symm.trans (lineB_fault (i := k) (by have := Hm.out; omega) (by rw [Hx.out, Hf.out]; exact hf))
          have hfn : (f != 0) = true := bne_iff_ne.2 hf
          go_wp2_with fail
          go_ret
          exact ⟨by rfl, held_next Hb2.out Hb3.out⟩
      · obtain rfl : res = true := Hres.out.symm.trans (lineB_faults Hok.out Hwho.out fun i hi => Hl.out i (by have := Hm.out; omega))
        go_wp2_with fail
        go_ret
        exact ⟨by rfl, held_next Hb2.out Hb.out⟩
end Go.Proofs.Ytefekkfocogghaa
