/- Law LineStays, walked: a line with one more that may join is one that may be, the others in their places; a line that may be may be without its first. The law itself is stated in LineCards. -/
import Derived.Test.YtefekkfocogghaaLineAwake
import Derived.Deep.RegionHeld3
namespace Go.Proofs.Ytefekkfocogghaa
open Go.RowKit

set_option maxRecDepth 100000 in
set_option maxHeartbeats 8000000 in
theorem linestays_law (c : Cf) (who : Int) (a : Option Addr) (m cp : Nat) (l : List Rq) (x : Rq) (hm : m = l.length) (hmc : m ≤ cp) (w : World) (hB : Line w (.slice a m cp) l) :
    Calls Try.prog 5 #[cfV c, .int .i64 who, .slice a m cp, rqV x] w (Says w true) := by
  have hbig : m ≤ 9223372036854775807 := by rw [hm]; exact hB.big
  have HW := Lib.hid ((Whole.made w 23 (cfCells c)).alloc (.cells (rqCells x) 28))
  have HX := Lib.hid (Whole.made2 w (.cells (cfCells c) 23) 28 (rqCells x))
  have Hb0 := Lib.hid (below_two w (.cells (cfCells c) 23) (.cells (rqCells x) 28))
  have HB := Lib.hid hB; clear hB
  have Hm := Lib.hid hm; clear hm
  obtain ⟨n, q, r, p, kk, cc⟩ := c
  obtain ⟨t, u, v⟩ := x
  go_enter Try.func5, Try.ntmps5
  go_wp2_with fail
  refine (awake11 _).mono ?_
  rintro e w1 ⟨rfl, hb⟩
  have Hb1 := Lib.hid (held_next Hb0.out hb)
  have HW1 := Lib.hid (HW.out.later hb HW.out.lt)
  have HX1 := Lib.hid (HX.out.later hb HX.out.lt)
  clear hb
  obtain ⟨d0, d1, d2, d3, d4, d5⟩ := config_cells HW1.out
  simp only at d0 d1 d2 d3 d4 d5
  by_cases h100 : 100 < m
  · go_wp2_with fail
    go_ret
    exact ⟨by rfl, Hb1.out⟩
  obtain ⟨ok, Hok⟩ : ∃ z, Hid (lineB ⟨n, q, r, p, kk, cc⟩ who l = z) := ⟨_, rfl⟩
  go_wp2_with fail
  refine (lMay_calls ⟨n, q, r, p, kk, cc⟩ who a m cp l Hm.out (by omega) _ (HB.out.later Hb1.out)).mono ?_
  rintro e w2 ⟨rfl, hb⟩
  rw [Hok.out]
  have Hb2 := Lib.hid (held_next Hb1.out hb)
  have HW2 := Lib.hid (HW1.out.later hb HW1.out.lt)
  have HX2 := Lib.hid (HX1.out.later hb HX1.out.lt)
  clear hb d0 d1 d2 d3 d4 d5 HW1 HX1
  cases ok with
  | false =>
    go_wp2_with fail
    go_ret
    exact ⟨by rfl, Hb2.out⟩
  | true =>
  have HOK := Lib.hid (lineB_ok Hok.out)
  have Hm8 : Hid (m ≤ 8) := by
    have h1 : (l.length : Int) ≤ q := HOK.out.2.2.1
    have h2 : q ≤ 8 := HOK.out.1.2.2.2.1
    have := Hm.out
    show _ ≤ _
    omega
  have hll := lLeave_calls a m cp l Hm.out (by have := Hm8.out; omega) hmc _ (HB.out.later Hb2.out)
  unfold LeftQ at hll
  rw [← Hm.out] at hll
  obtain ⟨y, Hy⟩ : ∃ z, Hid (rqAt l 0 = z) := ⟨_, rfl⟩
  rw [Hy.out] at hll
  obtain ⟨m1, Hm1⟩ : ∃ z, Hid (m - 1 = z) := ⟨_, rfl⟩
  simp only [Hm1.out] at hll
  go_wp2_with fail
  refine hll.mono ?_
  clear hll
  rintro e w3 ⟨A3, C3, hC3, rfl, hL3, hb⟩
  have hb3 := held_next hb (below_box w3 (.cells (rqCells y) 28))
  have Hb3 := Lib.hid (held_next Hb2.out hb3)
  have HW3 := Lib.hid (HW2.out.later hb3 HW2.out.lt)
  have HX3 := Lib.hid (HX2.out.later hb3 HX2.out.lt)
  have HL3 := Lib.hid (hL3.later (below_box w3 (.cells (rqCells y) 28)))
  clear hb hb3 hL3 HW2 HX2
  obtain ⟨d0, d1, d2, d3, d4, d5⟩ := config_cells HW3.out
  simp only at d0 d1 d2 d3 d4 d5
  obtain ⟨f0, f1, f2⟩ := rq_cells HX3.out
  simp only at f0 f1 f2
  obtain ⟨yt, ya, ym⟩ := y
  obtain ⟨J, HJ⟩ : ∃ z, Hid (joinQ ⟨n, q, r, p, kk, cc⟩ who l ⟨t, u, v⟩ = z) := ⟨_, rfl⟩
  obtain ⟨jl, jk⟩ := J
  have hj1 := fun w hw => lJoin_calls ⟨n, q, r, p, kk, cc⟩ who a m cp l ⟨t, u, v⟩ Hm.out (by have := Hm8.out; omega) w hw
  rw [HJ.out] at hj1
  have Hj1 := Lib.hid hj1; clear hj1
  clear h100
  by_cases hm0 : m = 0
  · have hdm : decide (0 < m) = false := decide_eq_false (by omega)
    have Hm0 := Lib.hid hm0
    clear hm0
    go_wp2_with fail
    refine (Hj1.out _ (HB.out.later Hb3.out)).mono ?_
    rintro e w6 ⟨A1, C1, rfl, hL, hb⟩
    have Hb6 := Lib.hid (held_next Hb3.out hb)
    have HW6 := Lib.hid (HW3.out.later hb HW3.out.lt)
    have HX6 := Lib.hid (HX3.out.later hb HX3.out.lt)
    have HB6 := Lib.hid (HB.out.later Hb6.out)
    clear hb d0 d1 d2 d3 d4 d5 f0 f1 f2 HW3 HX3
    by_cases hq : q ≤ (l.length : Int) ∨ (v < 1 ∨ 1099511627776 < v) ∨ nextB ⟨n, q, r, p, kk, cc⟩ who l ⟨t, u, v⟩ = false
    · obtain ⟨j0, hj0, hjl⟩ : ∃ j, j ≠ 0 ∧ (jl, jk) = (([] : List Rq), j) := by rw [← HJ.out]; exact joinQ_none Hok.out hq
      have hjk : jk = j0 := (Prod.mk.inj hjl).2
      have hjl' : jl = [] := (Prod.mk.inj hjl).1
      subst hjk hjl'
      have hjn : (jk == 0) = false := beq_eq_false_iff_ne.2 hj0
      have hjn2 : (jk != 0) = true := by simp [hj0]
      clear hjl hj0 hL hq
      simp only [List.length_nil]
      go_wp2_with fail
      go_ret
      exact ⟨by rfl, Hb6.out⟩
    have hq1 : ¬ q ≤ (l.length : Int) := fun h => hq (Or.inl h)
    have hq2 : ¬ (v < 1 ∨ 1099511627776 < v) := fun h => hq (Or.inr (Or.inl h))
    have hq3 : nextB ⟨n, q, r, p, kk, cc⟩ who l ⟨t, u, v⟩ = true := by
      cases hh : nextB ⟨n, q, r, p, kk, cc⟩ who l ⟨t, u, v⟩ with
      | true => rfl
      | false => exact absurd (Or.inr (Or.inr hh)) hq
    have hjy : (jl, jk) = (l ++ [⟨t, u, v⟩], 0) := HJ.out.symm.trans (joinQ_yes Hok.out hq2 hq1 hq3)
    have hjl' : jl = l ++ [⟨t, u, v⟩] := (Prod.mk.inj hjy).1
    have hjk : jk = 0 := (Prod.mk.inj hjy).2
    have hst := lineB_yes (join_stays HOK.out (Int.not_le.1 hq1) hq3)
    subst hjk hjl'
    clear hjy hq hq1 hq2 hq3
    have Hst := Lib.hid hst; clear hst
    have hlen1 : (l ++ [(⟨t, u, v⟩ : Rq)]).length = m + 1 := by rw [List.length_append, List.length_singleton, Hm.out]
    rw [hlen1] at hL
    simp only [hlen1]
    have Hlen1 := Lib.hid hlen1
    obtain ⟨hlo, hhi⟩ := hL.cap
    have hmC : m ≤ C1 := by omega
    have hat := hL.at (i := m) (by have := Hlen1.out; omega)
    obtain ⟨b, off, rfl, c0, c1, c2⟩ := hat
    rw [Hm.out, rqAt_last] at c0 c1 c2
    rw [← Hm.out] at c0 c1 c2
    simp only at c0 c1 c2
    have HLJ := Lib.hid hL
    have HLU := Lib.hid (hL.upto Hm.out)
    have k0 : (0 : Int) ≤ (m : Int) := by omega
    have k1 : (m : Int) < (m : Int) + 1 := by omega
    have k3 : (m : Int) ≤ (C1 : Int) := by omega
    have k4 := Hm8.out
    have kw : IntKind.i64.wrap ((m : Int) + 1) = (m : Int) + 1 := IntWalk.i64_in _ (by omega)
    have hEq := fun w => run_eql_rq w ⟨t, u, v⟩
    clear hL hlen1 hlo hhi
    have O1 : Hid (∀ w', Below w6.heap.size w6 w' → Calls Try.prog 9 #[cfV ⟨n, q, r, p, kk, cc⟩, .int .i64 who, .slice (some ⟨b, off, none⟩) (m + 1) C1] w' (Says w' true)) := by
      intro w' h; have h2 := lMay_calls ⟨n, q, r, p, kk, cc⟩ who (some ⟨b, off, none⟩) (m + 1) C1 _ Hlen1.out.symm (by omega) w' (HLJ.out.later h); rwa [Hst.out] at h2
    have O2 : Hid (∀ w', Below w6.heap.size w6 w' → Calls Try.prog 11 #[.slice (some ⟨b, off, none⟩) m C1, .slice a m cp] w' (Says w' true)) := by
      intro w' h; have h2 := reflinesame_calls (some ⟨b, off, none⟩) m C1 a m cp l l Hm.out Hm.out w' (HLU.out.later h) (HB6.out.later h); rwa [sameQ_self] at h2
    have KP : Hid (∀ w', Below w6.heap.size w6 w' → (fun w' => Below w6.heap.size w6 w' ∧ (w'.cell? ⟨w.heap.size, 0, none⟩ = some (.int .i64 n) ∧ w'.cell? ⟨w.heap.size, 1, none⟩ = some (.int .i64 q) ∧ w'.cell? ⟨w.heap.size, 2, none⟩ = some (.int .i64 r) ∧ w'.cell? ⟨w.heap.size, 3, none⟩ = some (.int .i64 p) ∧ w'.cell? ⟨w.heap.size, 4, none⟩ = some (.int .i64 kk) ∧ w'.cell? ⟨w.heap.size, 5, none⟩ = some (.int .i64 cc)) ∧ (w'.cell? ⟨w.heap.size + 1, 0, none⟩ = some (.int .i64 t) ∧ w'.cell? ⟨w.heap.size + 1, 1, none⟩ = some (.int .i64 u) ∧ w'.cell? ⟨w.heap.size + 1, 2, none⟩ = some (.int .i64 v)) ∧ (w'.cell? ⟨b, off + m * 3, none⟩ = some (.int .i64 t) ∧ w'.cell? ⟨b, off + m * 3 + 1, none⟩ = some (.int .i64 u) ∧ w'.cell? ⟨b, off + m * 3 + 2, none⟩ = some (.int .i64 v))) w') :=
      fun w' h => ⟨h, config_cells (HW6.out.later h HW6.out.lt), rq_cells (HX6.out.later h HX6.out.lt), cell_later h c0, cell_later h c1, cell_later h c2⟩
    clear c0 c1 c2
    go_wp2_with fail
    go_region_held3 (fun w' => Below w6.heap.size w6 w' ∧ (w'.cell? ⟨w.heap.size, 0, none⟩ = some (.int .i64 n) ∧ w'.cell? ⟨w.heap.size, 1, none⟩ = some (.int .i64 q) ∧ w'.cell? ⟨w.heap.size, 2, none⟩ = some (.int .i64 r) ∧ w'.cell? ⟨w.heap.size, 3, none⟩ = some (.int .i64 p) ∧ w'.cell? ⟨w.heap.size, 4, none⟩ = some (.int .i64 kk) ∧ w'.cell? ⟨w.heap.size, 5, none⟩ = some (.int .i64 cc)) ∧ (w'.cell? ⟨w.heap.size + 1, 0, none⟩ = some (.int .i64 t) ∧ w'.cell? ⟨w.heap.size + 1, 1, none⟩ = some (.int .i64 u) ∧ w'.cell? ⟨w.heap.size + 1, 2, none⟩ = some (.int .i64 v)) ∧ (w'.cell? ⟨b, off + m * 3, none⟩ = some (.int .i64 t) ∧ w'.cell? ⟨b, off + m * 3 + 1, none⟩ = some (.int .i64 u) ∧ w'.cell? ⟨b, off + m * 3 + 2, none⟩ = some (.int .i64 v)))
      (first | exact KP.out _ (Below.refl _ _).drew | (refine KP.out _ ?_; assumption))
      (first | (go_at_call 9; have hcur := (‹Below w6.heap.size w6 _ ∧ _ ∧ _›).1; have hcall := O1.out _ hcur; (with_reducible refine hcall.mono ?_); rintro ee wn ⟨rfl, hb⟩; have hS := held_next hcur hb; clear hb hcall) | (go_at_call 11; have hcur := (‹Below w6.heap.size w6 _ ∧ _ ∧ _›).1; have hcall := O2.out _ hcur; (with_reducible refine hcall.mono ?_); rintro ee wn ⟨rfl, hb⟩; have hS := held_next hcur hb; clear hb hcall))
    go_wp2_with fail
    go_ret
    exact ⟨by rfl, held_next Hb6.out (‹Below w6.heap.size w6 _ ∧ _ ∧ _›).1⟩
  · have hmp : 0 < m := by omega
    have hdm : decide (0 < m) = true := decide_eq_true hmp
    clear hm0
    have hst := leave_stays HOK.out
    have hly := lineB_yes hst
    clear hst
    have Hly := Lib.hid hly; clear hly
    go_wp2_with fail
    refine (lMay_calls ⟨n, q, r, p, kk, cc⟩ who A3 m1 C3 l.tail (by rw [List.length_tail, ← Hm1.out, Hm.out]) (by have := Hm1.out; have := Hm8.out; omega) _ HL3.out).mono ?_
    rintro e w4 ⟨rfl, hb⟩
    rw [Hly.out]
    have Hb4 := Lib.hid (held_next Hb3.out hb)
    have HW4 := Lib.hid (HW3.out.later hb HW3.out.lt)
    have HX4 := Lib.hid (HX3.out.later hb HX3.out.lt)
    clear hb d0 d1 d2 d3 d4 d5 f0 f1 f2 HW3 HX3
    obtain ⟨d0, d1, d2, d3, d4, d5⟩ := config_cells HW4.out
    obtain ⟨f0, f1, f2⟩ := rq_cells HX4.out
    simp only at d0 d1 d2 d3 d4 d5 f0 f1 f2
    go_wp2_with fail
    refine (Hj1.out _ (HB.out.later Hb4.out)).mono ?_
    rintro e w6 ⟨A1, C1, rfl, hL, hb⟩
    have Hb6 := Lib.hid (held_next Hb4.out hb)
    have HW6 := Lib.hid (HW4.out.later hb HW4.out.lt)
    have HX6 := Lib.hid (HX4.out.later hb HX4.out.lt)
    have HB6 := Lib.hid (HB.out.later Hb6.out)
    clear hb d0 d1 d2 d3 d4 d5 f0 f1 f2 HW4 HX4
    by_cases hq : q ≤ (l.length : Int) ∨ (v < 1 ∨ 1099511627776 < v) ∨ nextB ⟨n, q, r, p, kk, cc⟩ who l ⟨t, u, v⟩ = false
    · obtain ⟨j0, hj0, hjl⟩ : ∃ j, j ≠ 0 ∧ (jl, jk) = (([] : List Rq), j) := by rw [← HJ.out]; exact joinQ_none Hok.out hq
      have hjk : jk = j0 := (Prod.mk.inj hjl).2
      have hjl' : jl = [] := (Prod.mk.inj hjl).1
      subst hjk hjl'
      have hjn : (jk == 0) = false := beq_eq_false_iff_ne.2 hj0
      have hjn2 : (jk != 0) = true := by simp [hj0]
      clear hjl hj0 hL hq
      simp only [List.length_nil]
      go_wp2_with fail
      go_ret
      exact ⟨by rfl, Hb6.out⟩
    have hq1 : ¬ q ≤ (l.length : Int) := fun h => hq (Or.inl h)
    have hq2 : ¬ (v < 1 ∨ 1099511627776 < v) := fun h => hq (Or.inr (Or.inl h))
    have hq3 : nextB ⟨n, q, r, p, kk, cc⟩ who l ⟨t, u, v⟩ = true := by
      cases hh : nextB ⟨n, q, r, p, kk, cc⟩ who l ⟨t, u, v⟩ with
      | true => rfl
      | false => exact absurd (Or.inr (Or.inr hh)) hq
    have hjy : (jl, jk) = (l ++ [⟨t, u, v⟩], 0) := HJ.out.symm.trans (joinQ_yes Hok.out hq2 hq1 hq3)
    have hjl' : jl = l ++ [⟨t, u, v⟩] := (Prod.mk.inj hjy).1
    have hjk : jk = 0 := (Prod.mk.inj hjy).2
    have hst := lineB_yes (join_stays HOK.out (Int.not_le.1 hq1) hq3)
    subst hjk hjl'
    clear hjy hq hq1 hq2 hq3
    have Hst := Lib.hid hst; clear hst
    have hlen1 : (l ++ [(⟨t, u, v⟩ : Rq)]).length = m + 1 := by rw [List.length_append, List.length_singleton, Hm.out]
    rw [hlen1] at hL
    simp only [hlen1]
    have Hlen1 := Lib.hid hlen1
    obtain ⟨hlo, hhi⟩ := hL.cap
    have hmC : m ≤ C1 := by omega
    have hat := hL.at (i := m) (by have := Hlen1.out; omega)
    obtain ⟨b, off, rfl, c0, c1, c2⟩ := hat
    rw [Hm.out, rqAt_last] at c0 c1 c2
    rw [← Hm.out] at c0 c1 c2
    simp only at c0 c1 c2
    have HLJ := Lib.hid hL
    have HLU := Lib.hid (hL.upto Hm.out)
    have k0 : (0 : Int) ≤ (m : Int) := by omega
    have k1 : (m : Int) < (m : Int) + 1 := by omega
    have k3 : (m : Int) ≤ (C1 : Int) := by omega
    have k4 := Hm8.out
    have kw : IntKind.i64.wrap ((m : Int) + 1) = (m : Int) + 1 := IntWalk.i64_in _ (by omega)
    have hEq := fun w => run_eql_rq w ⟨t, u, v⟩
    clear hL hlen1 hlo hhi
    have O1 : Hid (∀ w', Below w6.heap.size w6 w' → Calls Try.prog 9 #[cfV ⟨n, q, r, p, kk, cc⟩, .int .i64 who, .slice (some ⟨b, off, none⟩) (m + 1) C1] w' (Says w' true)) := by
      intro w' h; have h2 := lMay_calls ⟨n, q, r, p, kk, cc⟩ who (some ⟨b, off, none⟩) (m + 1) C1 _ Hlen1.out.symm (by omega) w' (HLJ.out.later h); rwa [Hst.out] at h2
    have O2 : Hid (∀ w', Below w6.heap.size w6 w' → Calls Try.prog 11 #[.slice (some ⟨b, off, none⟩) m C1, .slice a m cp] w' (Says w' true)) := by
      intro w' h; have h2 := reflinesame_calls (some ⟨b, off, none⟩) m C1 a m cp l l Hm.out Hm.out w' (HLU.out.later h) (HB6.out.later h); rwa [sameQ_self] at h2
    have KP : Hid (∀ w', Below w6.heap.size w6 w' → (fun w' => Below w6.heap.size w6 w' ∧ (w'.cell? ⟨w.heap.size, 0, none⟩ = some (.int .i64 n) ∧ w'.cell? ⟨w.heap.size, 1, none⟩ = some (.int .i64 q) ∧ w'.cell? ⟨w.heap.size, 2, none⟩ = some (.int .i64 r) ∧ w'.cell? ⟨w.heap.size, 3, none⟩ = some (.int .i64 p) ∧ w'.cell? ⟨w.heap.size, 4, none⟩ = some (.int .i64 kk) ∧ w'.cell? ⟨w.heap.size, 5, none⟩ = some (.int .i64 cc)) ∧ (w'.cell? ⟨w.heap.size + 1, 0, none⟩ = some (.int .i64 t) ∧ w'.cell? ⟨w.heap.size + 1, 1, none⟩ = some (.int .i64 u) ∧ w'.cell? ⟨w.heap.size + 1, 2, none⟩ = some (.int .i64 v)) ∧ (w'.cell? ⟨b, off + m * 3, none⟩ = some (.int .i64 t) ∧ w'.cell? ⟨b, off + m * 3 + 1, none⟩ = some (.int .i64 u) ∧ w'.cell? ⟨b, off + m * 3 + 2, none⟩ = some (.int .i64 v))) w') :=
      fun w' h => ⟨h, config_cells (HW6.out.later h HW6.out.lt), rq_cells (HX6.out.later h HX6.out.lt), cell_later h c0, cell_later h c1, cell_later h c2⟩
    clear c0 c1 c2
    go_wp2_with fail
    go_region_held3 (fun w' => Below w6.heap.size w6 w' ∧ (w'.cell? ⟨w.heap.size, 0, none⟩ = some (.int .i64 n) ∧ w'.cell? ⟨w.heap.size, 1, none⟩ = some (.int .i64 q) ∧ w'.cell? ⟨w.heap.size, 2, none⟩ = some (.int .i64 r) ∧ w'.cell? ⟨w.heap.size, 3, none⟩ = some (.int .i64 p) ∧ w'.cell? ⟨w.heap.size, 4, none⟩ = some (.int .i64 kk) ∧ w'.cell? ⟨w.heap.size, 5, none⟩ = some (.int .i64 cc)) ∧ (w'.cell? ⟨w.heap.size + 1, 0, none⟩ = some (.int .i64 t) ∧ w'.cell? ⟨w.heap.size + 1, 1, none⟩ = some (.int .i64 u) ∧ w'.cell? ⟨w.heap.size + 1, 2, none⟩ = some (.int .i64 v)) ∧ (w'.cell? ⟨b, off + m * 3, none⟩ = some (.int .i64 t) ∧ w'.cell? ⟨b, off + m * 3 + 1, none⟩ = some (.int .i64 u) ∧ w'.cell? ⟨b, off + m * 3 + 2, none⟩ = some (.int .i64 v)))
      (first | exact KP.out _ (Below.refl _ _).drew | (refine KP.out _ ?_; assumption))
      (first | (go_at_call 9; have hcur := (‹Below w6.heap.size w6 _ ∧ _ ∧ _›).1; have hcall := O1.out _ hcur; (with_reducible refine hcall.mono ?_); rintro ee wn ⟨rfl, hb⟩; have hS := held_next hcur hb; clear hb hcall) | (go_at_call 11; have hcur := (‹Below w6.heap.size w6 _ ∧ _ ∧ _›).1; have hcall := O2.out _ hcur; (with_reducible refine hcall.mono ?_); rintro ee wn ⟨rfl, hb⟩; have hS := held_next hcur hb; clear hb hcall))
    go_wp2_with fail
    go_ret
    exact ⟨by rfl, held_next Hb6.out (‹Below w6.heap.size w6 _ ∧ _ ∧ _›).1⟩
end Go.Proofs.Ytefekkfocogghaa

