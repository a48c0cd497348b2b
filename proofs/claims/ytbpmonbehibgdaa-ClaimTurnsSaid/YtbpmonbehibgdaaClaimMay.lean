/- Package claim, walked: may notes be. No law is proved here. -/
import Derived.Test.YtbpmonbehibgdaaMg18
import Derived.Test.YtbpmonbehibgdaaRightsCfg
import Derived.WalkSmall
namespace Go.Proofs.Ytbpmonbehibgdaa
open Go.RowKit

theorem nt_small {l : List Nt} {m : Nat} (hm : m = l.length) {who : Int} (h1 : 0 ≤ who) (h2 : who < (m : Int)) : who.toNat < l.length := by omega
set_option maxRecDepth 100000 in
set_option maxHeartbeats 8000000 in
theorem cMay_calls (c : Cf) (who : Int) (a : Option Addr) (m cp : Nat) (l : List Nt) (hm : m = l.length) (hs : m ≤ 1000) (w : World) (hB : Notes w (.slice a m cp) l) :
    Calls Try.prog 10 #[cfV c, .int .i64 who, .slice a m cp] w (Says w (notesB c who l)) := by
  have HW := Lib.hid (Whole.made w 23 (cfCells c))
  have Hb0 := Lib.hid (below_box w (.cells (cfCells c) 23))
  have HB := Lib.hid hB; clear hB
  have Hm := Lib.hid hm; clear hm
  obtain ⟨n, q, r, p, kk, cc⟩ := c
  obtain ⟨res, Hres⟩ : ∃ z, Hid (notesB ⟨n, q, r, p, kk, cc⟩ who l = z) := ⟨_, rfl⟩
  have no : ¬ notesOk ⟨n, q, r, p, kk, cc⟩ who l → res = false := fun h => Hres.out.symm.trans (notesB_no h)
  have No := Lib.hid no; clear no
  rw [Hres.out]
  obtain ⟨ok, Hok⟩ : ∃ z, Hid (cfB ⟨n, q, r, p, kk, cc⟩ = z) := ⟨_, rfl⟩
  obtain ⟨amo, Hamo⟩ : ∃ z, Hid (decide (0 ≤ who ∧ who < n) = z) := ⟨_, rfl⟩
  go_enter Try.func10, Try.ntmps10
  go_wp2_with fail
  refine (rMay_calls ⟨n, q, r, p, kk, cc⟩ _).mono ?_
  rintro e w1 ⟨rfl, hb⟩
  rw [Hok.out]
  have Hb1 := Lib.hid (held_next Hb0.out hb)
  have HW1 := Lib.hid (HW.out.later hb HW.out.lt)
  clear hb HW Hb0
  obtain ⟨d0, d1, d2, d3, d4, d5⟩ := config_cells HW1.out
  simp only at d0 d1 d2 d3 d4 d5
  cases ok with
  | false =>
    obtain rfl : res = false := No.out fun h => by
      have := cfB_yes h.1
      rw [Hok.out] at this
      cases this
    go_wp2_with fail
    go_ret
    exact ⟨by rfl, Hb1.out⟩
  | true =>
  go_wp2_with fail
  refine (amongc_calls ⟨n, q, r, p, kk, cc⟩ who _).mono ?_
  rintro e w2 ⟨rfl, hb⟩
  rw [show decide (0 ≤ who ∧ who < (Cf.mk n q r p kk cc).n) = amo from Hamo.out]
  have Hb2 := Lib.hid (held_next Hb1.out hb)
  have HW2 := Lib.hid (HW1.out.later hb HW1.out.lt)
  clear hb HW1 Hb1 d0 d1 d2 d3 d4 d5
  obtain ⟨d0, d1, d2, d3, d4, d5⟩ := config_cells HW2.out
  simp only at d0 d1 d2 d3 d4 d5
  cases amo with
  | false =>
    obtain rfl : res = false := No.out fun h => (of_decide_eq_false Hamo.out) h.2.1
    go_wp2_with fail
    go_ret
    exact ⟨by rfl, Hb2.out⟩
  | true =>
  have Hwho := Lib.hid (of_decide_eq_true Hamo.out)
  by_cases h3 : (m : Int) = n
  rotate_left 1
  · obtain rfl : res = false := No.out fun h => h3 (by have := h.2.2.1; rw [Hm.out]; exact this)
    have h3' : ((m : Int) != n) = true := bne_iff_ne.2 h3
    clear h3
    go_wp2_with fail
    go_ret
    exact ⟨by rfl, Hb2.out⟩
  have hok := cfB_ok Hok.out
  have hn16 : n ≤ 16 := hok.2.1
  subst h3
  have hw1 : 0 ≤ who := Hwho.out.1
  have hw2 : who < (m : Int) := Hwho.out.2
  obtain ⟨b, off, rfl, hN⟩ := HB.out.at (i := who.toNat) (nt_small Hm.out hw1 hw2)
  obtain ⟨y, Hy⟩ : ∃ z, Hid (ntAt l who.toNat = z) := ⟨_, rfl⟩
  rw [Hy.out] at hN
  have HN := Lib.hid (NtIn.later hN Hb2.out); clear hN hok
  obtain ⟨z, Hz⟩ : ∃ z, Hid ((!decide (y = nt0)) = z) := ⟨_, rfl⟩
  obtain ⟨y0, y1, y2, y3, y4, y5, y6⟩ := y
  obtain ⟨e0, e1, e2, e3, e4, e5, e6⟩ := HN.out
  simp only at e0 e1 e2 e3 e4 e5 e6
  have heq : ∀ w : World, (binOp .neq 47 (.agg #[.int .i64 y0, .int .i64 y1, .int .i64 y2, .int .i64 y3, .int .i64 y4, .int .i64 y5, .int .i64 y6]) (.agg #[.int .i64 0, .int .i64 0, .int .i64 0, .int .i64 0, .int .i64 0, .int .i64 0, .int .i64 0])).run Try.prog w = .ok (.bool z) w := fun w => (run_neq_nt w ⟨y0, y1, y2, y3, y4, y5, y6⟩ nt0).trans (by rw [← Hz.out])
  cases z with
  | true =>
    obtain rfl : res = false := No.out fun h => by
      have h9 := (h.2.2.2 who.toNat (nt_small Hm.out hw1 hw2)).2 (Int.toNat_of_nonneg hw1)
      rw [Hy.out] at h9
      have := Hz.out
      rw [h9] at this
      simp at this
    go_wp2_with fail
    go_ret
    exact ⟨by rfl, Hb2.out⟩
  | false =>
  have Hown : Hid (∀ i : Nat, (i : Int) = who → ntAt l i = nt0) := fun i hi => by
    have e : who.toNat = i := by omega
    have h9 := Hy.out
    rw [e] at h9
    rw [h9]
    simpa using Hz.out
  go_wp2_with fail
  clear d0 d1 d2 d3 d4 d5 e0 e1 e2 e3 e4 e5 e6 heq HN
  go_loopw [35] (fun s7 wr => ∃ k : Nat, k ≤ m ∧ s7 = .int .i64 k ∧ Hid (∀ i, i < k → noteB ⟨m, q, r, p, kk, cc⟩ i (ntAt l i) = true) ∧ Hid (Below w.heap.size w wr) ∧ Hid (Whole wr w.heap.size 23 (cfCells ⟨m, q, r, p, kk, cc⟩))) (fun s7 _ => m - (intOf s7).toNat)
  case atStart => exact ⟨0, Nat.zero_le _, rfl, fun z hz => absurd hz (Nat.not_lt_zero _), Hb2.out, HW2.out⟩
  case round =>
    obtain ⟨k, hk, rfl, Hl, Hb, HWr⟩ := hrel
    obtain ⟨d0, d1, d2, d3, d4, d5⟩ := config_cells HWr.out
    simp only at d0 d1 d2 d3 d4 d5
    by_cases hlt : k < m
    · obtain ⟨b9, off9, hsame, hN⟩ := HB.out.at (i := k) (by have := Hm.out; omega)
      simp only [Option.some.injEq, Addr.mk.injEq] at hsame
      obtain ⟨rfl, rfl, _⟩ := hsame
      obtain ⟨x, Hx⟩ : ∃ z, Hid (ntAt l k = z) := ⟨_, rfl⟩
      rw [Hx.out] at hN
      obtain ⟨e0, e1, e2, e3, e4, e5, e6⟩ := NtIn.later hN Hb.out
      obtain ⟨v, Hv⟩ : ∃ z, Hid (noteB ⟨m, q, r, p, kk, cc⟩ k x = z) := ⟨_, rfl⟩
      clear hN
      have hbx := below_box wr (.cells (ntCells x) 47)
      have Hbx := Lib.hid (held_next Hb.out hbx)
      have HWx := Lib.hid (HWr.out.later hbx HWr.out.lt)
      have hwl := HWr.out.lt
      clear hbx
      obtain ⟨x0, x1, x2, x3, x4, x5, x6⟩ := x
      simp only at e0 e1 e2 e3 e4 e5 e6
      have k0 : (0 : Int) ≤ (k : Int) := by omega
      have k1 : (k : Int) < (m : Int) := by omega
      go_wp2_with fail
      refine (fits_calls ⟨m, q, r, p, kk, cc⟩ k ⟨x0, x1, x2, x3, x4, x5, x6⟩ _).mono ?_
      rw [Hv.out]
      rintro e w3 ⟨rfl, hb⟩
      have Hb3 := Lib.hid (held_next Hbx.out hb)
      have HW3 := Lib.hid (HWx.out.later hb HWx.out.lt)
      clear hb
      cases v with
      | false =>
        obtain rfl : res = false := No.out fun h => by
          have h9 := (h.2.2.2 k (by have := Hm.out; omega)).1
          rw [Hx.out, Hv.out] at h9
          cases h9
        go_wp2_with fail
        go_ret
        exact ⟨by rfl, Hb3.out⟩
      | true =>
        go_wp2_with fail
        go_roundw
        case rel => exact ⟨k + 1, by omega, by go_num, (fun z hz => by
          by_cases e : z = k
          · subst e; rw [Hx.out]; exact Hv.out
          · exact Hl.out z (by omega)), Hb3.out, HW3.out⟩
        case measure => simp [intOf]; omega
    · obtain rfl : res = true := Hres.out.symm.trans (decide_eq_true ⟨cfB_ok Hok.out, ⟨hw1, hw2⟩, by rw [← Hm.out], fun i hi => ⟨Hl.out i (by have := Hm.out; omega), Hown.out i⟩⟩)
      go_wp2_with fail
      go_ret
      exact ⟨by rfl, Hb.out⟩
end Go.Proofs.Ytbpmonbehibgdaa
