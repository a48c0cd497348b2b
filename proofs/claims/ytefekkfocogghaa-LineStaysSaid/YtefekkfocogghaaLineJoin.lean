/- Package line, walked: Join. No law is proved here. -/
import Derived.Test.YtefekkfocogghaaLineMay
import Derived.Test.YtefekkfocogghaaLineGrow
import Derived.BigRegion
import Derived.Deep.RegionHeld3
namespace Go.Proofs.Ytefekkfocogghaa
open Go.RowKit

/-- what Join answers, by what is wrong with the request behind all -/
theorem joinQ_bad {c : Cf} {who : Int} {l : List Rq} {x : Rq} (h : lineB c who l = true) (hf : faultV c who l l.length x ≠ 0) : joinQ c who l x = ([], faultV c who l l.length x) := by
  unfold joinQ
  rw [if_pos (lineB_ok h)]
  by_cases h1 : x.m < 1 ∨ 1099511627776 < x.m
  · rw [if_pos h1, fault_two h1]
  · rw [if_neg h1]
    by_cases h2 : c.q ≤ (l.length : Int)
    · rw [if_pos h2, fault_three h1 h2]
    · rw [if_neg h2]
      have h3 : nextB c who l x = false := by
        cases h4 : nextB c who l x with
        | false => rfl
        | true =>
          unfold nextB at h4
          rw [Bool.and_eq_true, Bool.or_eq_true, decide_eq_true_eq] at h4
          exact absurd (fault_zero.2 ⟨by omega, h4.1, fun h0 => by rcases h4.2 with h5 | h5; omega; exact h5⟩) hf
      rw [h3]
      have h4 : faultV c who l l.length x = 1 := by
        by_cases h5 : mayB x.t x.a c.n = true ∧ x.a = who
        · rw [fault_last h1 (by omega) h5] at hf ⊢
          by_cases h6 : 0 < l.length ∧ rqOld (rqAt l (l.length - 1)) x = false
          · rw [if_pos h6]
          · rw [if_neg h6] at hf; exact absurd rfl hf
        · exact fault_one h1 (by omega) h5
      rw [h4]; rfl
theorem joinQ_good {c : Cf} {who : Int} {l : List Rq} {x : Rq} (h : lineB c who l = true) (hf : faultV c who l l.length x = 0) : joinQ c who l x = (l ++ [x], 0) := by
  obtain ⟨h1, h2, h3⟩ := fault_zero.1 hf
  have h4 := oneB_iff.1 h2
  unfold oneOk at h4
  unfold joinQ
  rw [if_pos (lineB_ok h), if_neg (by omega), if_neg (by omega)]
  have h5 : nextB c who l x = true := by
    unfold nextB
    rw [h2, Bool.true_and, Bool.or_eq_true, decide_eq_true_eq]
    by_cases h0 : l.length = 0
    · exact Or.inl h0
    · exact Or.inr (h3 (by omega))
  rw [h5]; rfl
theorem joinQ_off {c : Cf} {who : Int} {l : List Rq} (x : Rq) (h : lineB c who l = false) : joinQ c who l x = ([], 1) := by
  unfold joinQ; rw [if_neg (of_decide_eq_false h)]
attribute [local go_sem ↓] run_fine
set_option maxRecDepth 100000 in
set_option maxHeartbeats 8000000 in
theorem lJoin_calls (c : Cf) (who : Int) (a : Option Addr) (m cp : Nat) (l : List Rq) (x : Rq) (hm : m = l.length) (hsmall : m ≤ 1000) (w : World) (hB : Line w (.slice a m cp) l) :
    Calls Try.prog 7 #[cfV c, .int .i64 who, .slice a m cp, rqV x] w (JoinedQ w (joinQ c who l x)) := by
  have HW := Lib.hid ((Whole.made w 23 (cfCells c)).alloc (.cells (rqCells x) 28))
  have HX := Lib.hid (Whole.made2 w (.cells (cfCells c) 23) 28 (rqCells x))
  have Hb0 := Lib.hid (below_two w (.cells (cfCells c) 23) (.cells (rqCells x) 28))
  have hmcp := hB.cap.1
  have HB := Lib.hid hB; clear hB
  have Hm := Lib.hid hm; clear hm
  obtain ⟨n, q, r, p, kk, cc⟩ := c
  obtain ⟨t, u, v⟩ := x
  obtain ⟨res, Hres⟩ : ∃ z, Hid (joinQ ⟨n, q, r, p, kk, cc⟩ who l ⟨t, u, v⟩ = z) := ⟨_, rfl⟩
  rw [Hres.out]
  obtain ⟨ok, Hok⟩ : ∃ z, Hid (lineB ⟨n, q, r, p, kk, cc⟩ who l = z) := ⟨_, rfl⟩
  obtain ⟨f, Hf⟩ : ∃ z, Hid (faultV ⟨n, q, r, p, kk, cc⟩ who l m ⟨t, u, v⟩ = z) := ⟨_, rfl⟩
  have hcall := lMay_calls ⟨n, q, r, p, kk, cc⟩ who a m cp l Hm.out hsmall ((w.alloc (.cells (cfCells ⟨n, q, r, p, kk, cc⟩) 23)).alloc (.cells (rqCells ⟨t, u, v⟩) 28)) (HB.out.later Hb0.out)
  go_enter Try.func7, Try.ntmps7
  go_wp2_with fail
  refine hcall.mono ?_
  clear hcall
  rintro e w1 ⟨rfl, hb⟩
  rw [Hok.out]
  have Hb1 := Lib.hid (held_next Hb0.out hb)
  have HW1 := Lib.hid (HW.out.later hb HW.out.lt)
  have HX1 := Lib.hid (HX.out.later hb HX.out.lt)
  clear hb
  obtain ⟨d0, d1, d2, d3, d4, d5⟩ := config_cells HW1.out
  obtain ⟨f0, f1, f2⟩ := rq_cells HX1.out
  simp only at d0 d1 d2 d3 d4 d5 f0 f1 f2
  cases ok with
  | false =>
    obtain rfl : res = ([], 1) := Hres.out.symm.trans (joinQ_off _ Hok.out)
    go_wp2_with fail
    go_ret2
    exact ⟨none, 0, by rfl, Line.nil _ _ _ (fun _ => rfl), Hb1.out⟩
  | true =>
    have KP : Hid (∀ w', Below w1.heap.size w1 w' → (fun w' => Below w1.heap.size w1 w' ∧ (w'.cell? ⟨w.heap.size, 0, none⟩ = some (.int .i64 n) ∧ w'.cell? ⟨w.heap.size, 1, none⟩ = some (.int .i64 q) ∧ w'.cell? ⟨w.heap.size, 2, none⟩ = some (.int .i64 r) ∧ w'.cell? ⟨w.heap.size, 3, none⟩ = some (.int .i64 p) ∧ w'.cell? ⟨w.heap.size, 4, none⟩ = some (.int .i64 kk) ∧ w'.cell? ⟨w.heap.size, 5, none⟩ = some (.int .i64 cc)) ∧ (w'.cell? ⟨w.heap.size + 1, 0, none⟩ = some (.int .i64 t) ∧ w'.cell? ⟨w.heap.size + 1, 1, none⟩ = some (.int .i64 u) ∧ w'.cell? ⟨w.heap.size + 1, 2, none⟩ = some (.int .i64 v))) w') :=
      fun w' h => ⟨h, config_cells (HW1.out.later h HW1.out.lt), rq_cells (HX1.out.later h HX1.out.lt)⟩
    go_wp2_with fail
    refine wp_region_held_drew (S := (fun w' => Below w1.heap.size w1 w' ∧ (w'.cell? ⟨w.heap.size, 0, none⟩ = some (.int .i64 n) ∧ w'.cell? ⟨w.heap.size, 1, none⟩ = some (.int .i64 q) ∧ w'.cell? ⟨w.heap.size, 2, none⟩ = some (.int .i64 r) ∧ w'.cell? ⟨w.heap.size, 3, none⟩ = some (.int .i64 p) ∧ w'.cell? ⟨w.heap.size, 4, none⟩ = some (.int .i64 kk) ∧ w'.cell? ⟨w.heap.size, 5, none⟩ = some (.int .i64 cc)) ∧ (w'.cell? ⟨w.heap.size + 1, 0, none⟩ = some (.int .i64 t) ∧ w'.cell? ⟨w.heap.size + 1, 1, none⟩ = some (.int .i64 u) ∧ w'.cell? ⟨w.heap.size + 1, 2, none⟩ = some (.int .i64 v)))) (by kernel_rfl) (KP.out _ (Below.refl _ _).drew) (fun hHeld => ?_)
    refine wpAnyH_take (i := 0) (oi := ⟨some 16, _, _, _, _, _⟩) (v := ?_) rfl (by kernel_rfl) (by kernel_rfl) (by kernel_rfl) (fun _ _ _ h => h) (Or.inl ⟨by rfl, ?_⟩) (by assumption) ?_
    rotate_left 1
    · intro w hSw
      try dsimp only at hSw
      go_simp
      try with_reducible rfl
    simp only [Act.put, List.setIfInBounds_toArray, List.set_cons_zero, List.set_cons_succ]
    refine wpAnyH_take (i := 1) (oi := ⟨some 17, _, _, _, _, _⟩) (v := ?_) rfl (by kernel_rfl) (by kernel_rfl) (by kernel_rfl) (fun _ _ _ h => h) (Or.inl ⟨by rfl, ?_⟩) (by assumption) ?_
    rotate_left 1
    · intro w hSw
      try dsimp only at hSw
      go_simp
      try with_reducible rfl
    simp only [Act.put, List.setIfInBounds_toArray, List.set_cons_zero, List.set_cons_succ]
    refine wpAnyH_take (i := 2) (oi := ⟨some 18, _, _, _, _, _⟩) (v := ?_) rfl (by kernel_rfl) (by kernel_rfl) (by kernel_rfl) (fun _ _ _ h => h) (Or.inl ⟨by rfl, ?_⟩) (by assumption) ?_
    rotate_left 1
    · intro w hSw
      try dsimp only at hSw
      go_simp
      try with_reducible rfl
    simp only [Act.put, List.setIfInBounds_toArray, List.set_cons_zero, List.set_cons_succ]
    refine wpAnyH_take (i := 4) (oi := ⟨some 20, _, _, _, _, _⟩) (v := ?_) rfl (by kernel_rfl) (by kernel_rfl) (by kernel_rfl) (fun _ _ _ h => h) (Or.inl ⟨by rfl, ?_⟩) (by assumption) ?_
    rotate_left 1
    · intro w hSw
      try dsimp only at hSw
      go_simp
      try with_reducible rfl
    simp only [Act.put, List.setIfInBounds_toArray, List.set_cons_zero, List.set_cons_succ]
    refine wpAnyH_take (i := 5) (oi := ⟨some 21, _, _, _, _, _⟩) (v := ?_) rfl (by kernel_rfl) (by kernel_rfl) (by kernel_rfl) (fun _ _ _ h => h) (Or.inl ⟨by rfl, ?_⟩) (by assumption) ?_
    rotate_left 1
    · intro w hSw
      try dsimp only at hSw
      go_simp
      try with_reducible rfl
    simp only [Act.put, List.setIfInBounds_toArray, List.set_cons_zero, List.set_cons_succ]
    refine wpAnyH_take (i := 6) (oi := ⟨some 22, _, _, _, _, _⟩) (v := ?_) rfl (by kernel_rfl) (by kernel_rfl) (by kernel_rfl) (fun _ _ _ h => h) (Or.inl ⟨by rfl, ?_⟩) (by assumption) ?_
    rotate_left 1
    · intro w hSw
      try dsimp only at hSw
      go_simp
      try with_reducible rfl
    simp only [Act.put, List.setIfInBounds_toArray, List.set_cons_zero, List.set_cons_succ]
    refine wpAnyH_ready (rs := [3]) (by kernel_rfl) (by simp) ?_
    refine AllReadyH.cons rfl (fun K hK => ?_) AllReadyH.nil
    go_simp
    go_wp2_with (go_at_call 13; refine (faults_calls ⟨n, q, r, p, kk, cc⟩ who a m cp _).mono ?_; rintro ee wo ⟨vv, rfl, ⟨bc, bw, bl, rfl, q1, q2, q3⟩, hb2⟩; have hS1 := held_next hHeld.1 hb2; have Q1 := Lib.hid q1; have Q2 := Lib.hid q2; have Q3 := Lib.hid q3; clear q1 q2 q3)
    refine hK.out _ _ (KP.out _ hS1) (fun hHeld2 => ?_)
    clear hHeld hK K
    have hHeld := hHeld2
    clear hHeld2
    refine wpAnyH_ready (rs := [7]) (by kernel_rfl) (by simp) ?_
    refine AllReadyH.cons rfl (fun K hK => ?_) AllReadyH.nil
    go_simp
    go_wp2_with (go_at_call 18; refine (fault_calls ⟨n, q, r, p, kk, cc⟩ who a m cp l m ⟨t, u, v⟩ Hm.out (Nat.le_refl _) bc bw bl _ (HB.out.later (held_next Hb1.out hHeld.1)) Q1.out Q2.out Q3.out).mono ?_; rw [Hf.out]; rintro ee wp ⟨rfl, hb2⟩; have hS1 := held_next hHeld.1 hb2)
    refine hK.out _ _ (KP.out _ hS1) (fun hHeld2 => ?_)
    clear hHeld hK K
    have hHeld := hHeld2
    clear hHeld2
    refine wpAnyH_take (i := 8) (oi := ⟨some 10, _, _, _, _, _⟩) (v := ?_) rfl (by kernel_rfl) (by kernel_rfl) (by kernel_rfl) (fun _ _ _ h => h) (Or.inl ⟨by rfl, ?_⟩) (by assumption) ?_
    rotate_left 1
    · intro w hSw
      try dsimp only at hSw
      go_simp
      try with_reducible rfl
    simp only [Act.put, List.setIfInBounds_toArray, List.set_cons_zero, List.set_cons_succ]
    refine wpAnyH_done (by kernel_rfl) ?_ _
    have HbN := Lib.hid (held_next Hb1.out hHeld.1)
    have HXN := Lib.hid (HX1.out.later hHeld.1 HX1.out.lt)
    clear hHeld d0 d1 d2 d3 d4 d5 f0 f1 f2
    by_cases hf : f = 0
    · rw [Hm.out] at Hf
      obtain rfl : res = (l ++ [⟨t, u, v⟩], 0) := Hres.out.symm.trans (joinQ_good Hok.out (Hf.out.trans hf))
      subst hf
      have hlen : Hid (m + 1 = (l ++ [(⟨t, u, v⟩ : Rq)]).length) := by show _ = _; rw [List.length_append, List.length_singleton, ← Hm.out]
      obtain ⟨WN, hWN⟩ : ∃ z, wp = z := ⟨_, rfl⟩
      rw [hWN] at HbN HXN ⊢
      have g0 : WN.cell? ⟨w.heap.size + 1, 0, none⟩ = some (.int .i64 t) := HXN.out.cell 0
      have g1 : WN.cell? ⟨w.heap.size + 1, 1, none⟩ = some (.int .i64 u) := HXN.out.cell 1
      have g2 : WN.cell? ⟨w.heap.size + 1, 2, none⟩ = some (.int .i64 v) := HXN.out.cell 2
      have hall := HXN.out.lt
      obtain ⟨A', C, w4, hrun, hC, hL4, hb4, _⟩ := run_append_rq (w := (WN.alloc (.cells (rqCells ⟨t, u, v⟩) 28)).drew) (A := a) (n := m) (l := l) (k := [⟨t, u, v⟩]) ((HB.out.later ((held_next HbN.out (below_box WN _)).drew)).full Hm.out) Hm.out
        (B := some ⟨WN.heap.size, 0, none⟩) (m := 1) (c := 1) (one_rq' (Whole.made _ _ _).drew) rfl (by have := Hm.out; show l.length + 1 ≤ 1000000; omega)
      obtain ⟨hfine, happV, happW⟩ := fine_of hrun
      have HL4 := Lib.hid hL4
      have Hb4 : Hid (Below WN.heap.size WN w4) := held_next ((below_box WN _).drew) hb4
      clear hL4 hb4 hrun hWN
      have e1 : (0 : Int) ≤ (m : Int) := by omega
      go_wp2
      go_region
      go_wp2
      go_ret2
      refine ⟨A', C, ?_, ?_, held_next HbN.out Hb4.out⟩
      · rw [← hlen.out]; rfl
      · rw [← hlen.out]; exact HL4.out
    · rw [Hm.out] at Hf
      obtain rfl : res = ([], f) := Hres.out.symm.trans ((joinQ_bad Hok.out (by rw [Hf.out]; exact hf)).trans (by rw [Hf.out]))
      have hfn : (f != 0) = true := bne_iff_ne.2 hf
      go_wp2_with fail
      go_ret2
      exact ⟨none, 0, by rfl, Line.nil _ _ _ (fun _ => rfl), HbN.out⟩
end Go.Proofs.Ytefekkfocogghaa
