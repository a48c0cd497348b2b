/- The document's own, layer 11: a request joins a line. No law is proved here. -/
import Derived.Test.YtefekkfocogghaaRefLineMay
import Derived.Test.YtefekkfocogghaaAppRun
import Derived.Test.YtefekkfocogghaaLineOwn
import Derived.Test.YtefekkfocogghaaEach
import Derived.Laws.AppendOwn
import Derived.Laws.AppendOwnNone
import Derived.Laws.OwnMore
import Derived.Maps.AppendAt
import Derived.BigRegion
namespace Go.Proofs.Ytefekkfocogghaa
open Go.RowKit

theorem joinQ_arg {c : Cf} {who : Int} {l : List Rq} (x : Rq) (h : lineB c who l = false) : joinQ c who l x = ([], 1) := by
  unfold joinQ; rw [if_neg (of_decide_eq_false h)]
theorem joinQ_invalid {c : Cf} {who : Int} {l : List Rq} {x : Rq} (h : lineB c who l = true) (h2 : x.m < 1 ∨ 1099511627776 < x.m) : joinQ c who l x = ([], 2) := by
  unfold joinQ; rw [if_pos (lineB_ok h), if_pos h2]
theorem joinQ_busy {c : Cf} {who : Int} {l : List Rq} {x : Rq} (h : lineB c who l = true) (h2 : ¬ (x.m < 1 ∨ 1099511627776 < x.m)) (h3 : c.q ≤ (l.length : Int)) : joinQ c who l x = ([], 3) := by
  unfold joinQ; rw [if_pos (lineB_ok h), if_neg h2, if_pos h3]
theorem joinQ_no {c : Cf} {who : Int} {l : List Rq} {x : Rq} (h : lineB c who l = true) (h2 : ¬ (x.m < 1 ∨ 1099511627776 < x.m)) (h3 : ¬ c.q ≤ (l.length : Int)) (h4 : nextB c who l x = false) : joinQ c who l x = ([], 1) := by
  unfold joinQ; rw [if_pos (lineB_ok h), if_neg h2, if_neg h3, h4]; rfl
theorem joinQ_yes {c : Cf} {who : Int} {l : List Rq} {x : Rq} (h : lineB c who l = true) (h2 : ¬ (x.m < 1 ∨ 1099511627776 < x.m)) (h3 : ¬ c.q ≤ (l.length : Int)) (h4 : nextB c who l x = true) : joinQ c who l x = (l ++ [x], 0) := by
  unfold joinQ; rw [if_pos (lineB_ok h), if_neg h2, if_neg h3, h4]; rfl
theorem nextB_bad {c : Cf} {who : Int} {l : List Rq} {x : Rq} (h : oneB c who x = false) : nextB c who l x = false := by unfold nextB; rw [h]; rfl
theorem nextB_first {c : Cf} {who : Int} {l : List Rq} {x : Rq} (h : oneB c who x = true) (h2 : l.length = 0) : nextB c who l x = true := by unfold nextB; rw [h, decide_eq_true h2]; rfl
theorem nextB_more {c : Cf} {who : Int} {l : List Rq} {x : Rq} (h : oneB c who x = true) (h2 : l.length ≠ 0) : nextB c who l x = rqOld (rqAt l (l.length - 1)) x := by unfold nextB; rw [h, decide_eq_false h2]; simp
attribute [local go_sem ↓] run_fine
set_option maxRecDepth 100000 in
set_option maxHeartbeats 8000000 in
theorem reflinejoin_calls (c : Cf) (who : Int) (a : Option Addr) (m cp : Nat) (l : List Rq) (x : Rq) (hm : m = l.length) (w : World) (hB : Line w (.slice a m cp) l) :
    Calls Try.prog 8 #[cfV c, .int .i64 who, .slice a m cp, rqV x] w (JoinedQ w (joinQ c who l x)) := by
  have hbig : m ≤ 9223372036854775807 := by rw [hm]; exact hB.big
  obtain ⟨i5, hi, hz0, hz1, hz2⟩ := info_parts info_rq
  have Ki := Lib.hid hi; clear hi
  have Kz0 := Lib.hid hz0; clear hz0
  have Kz1 := Lib.hid hz1; clear hz1
  have Kz2 := Lib.hid hz2; clear hz2
  have HW := Lib.hid ((Whole.made w 23 (cfCells c)).alloc (.cells (rqCells x) 28))
  have HX := Lib.hid (Whole.made2 w (.cells (cfCells c) 23) 28 (rqCells x))
  have Hb0 := Lib.hid (below_two w (.cells (cfCells c) 23) (.cells (rqCells x) 28))
  have HB := Lib.hid hB; clear hB
  have Hm := Lib.hid hm; clear hm
  obtain ⟨n, q, r, p, kk, cc⟩ := c
  obtain ⟨t, u, v⟩ := x
  obtain ⟨res, Hres⟩ : ∃ z, Hid (joinQ ⟨n, q, r, p, kk, cc⟩ who l ⟨t, u, v⟩ = z) := ⟨_, rfl⟩
  rw [Hres.out]
  have hcall := reflinemay_calls ⟨n, q, r, p, kk, cc⟩ who a m cp l Hm.out ((w.alloc (.cells (cfCells ⟨n, q, r, p, kk, cc⟩) 23)).alloc (.cells (rqCells ⟨t, u, v⟩) 28)) (HB.out.later Hb0.out)
  obtain ⟨ok, Hok⟩ : ∃ z, Hid (lineB ⟨n, q, r, p, kk, cc⟩ who l = z) := ⟨_, rfl⟩
  obtain ⟨one, Hone⟩ : ∃ z, Hid (oneB ⟨n, q, r, p, kk, cc⟩ who ⟨t, u, v⟩ = z) := ⟨_, rfl⟩
  go_enter Try.func8, Try.ntmps8
  go_wp2_with fail
  refine hcall.mono ?_
  clear hcall
  rintro e w1 ⟨rfl, hb⟩
  rw [Hok.out]
  have Hb1 := Lib.hid (held_next Hb0.out hb)
  have HW1 := Lib.hid (HW.out.later hb HW.out.lt)
  have HX1 := Lib.hid (HX.out.later hb HX.out.lt)
  clear hb
  obtain ⟨d0, d1, d2, d3, d4, d5⟩ := config_cells HW1.out
  obtain ⟨f0, f1, f2⟩ := rq_cells HX1.out
  simp only at d0 d1 d2 d3 d4 d5 f0 f1 f2
  cases ok with
  | false =>
    obtain rfl : res = ([], 1) := Hres.out.symm.trans (joinQ_arg _ Hok.out)
    go_wp2_with fail
    go_ret2
    exact ⟨none, 0, by rfl, Line.nil _ _ _ (fun _ => rfl), Hb1.out⟩
  | true =>
    by_cases hv : v < 1 ∨ 1099511627776 < v
    · obtain rfl : res = ([], 2) := Hres.out.symm.trans (joinQ_invalid Hok.out hv)
      by_cases hv1 : v < 1
      · clear hv
        go_wp2_with fail
        go_ret2
        exact ⟨none, 0, by rfl, Line.nil _ _ _ (fun _ => rfl), Hb1.out⟩
      · have hv2 : 1099511627776 < v := by omega
        clear hv
        go_wp2_with fail
        go_ret2
        exact ⟨none, 0, by rfl, Line.nil _ _ _ (fun _ => rfl), Hb1.out⟩
    have Hv := Lib.hid hv
    have hv1 : ¬ v < 1 := by omega
    have hv2 : ¬ 1099511627776 < v := by omega
    clear hv
    by_cases hq : q ≤ (m : Int)
    · obtain rfl : res = ([], 3) := Hres.out.symm.trans (joinQ_busy Hok.out Hv.out (by have := Hm.out; show q ≤ (l.length : Int); omega))
      go_wp2_with fail
      go_ret2
      exact ⟨none, 0, by rfl, Line.nil _ _ _ (fun _ => rfl), Hb1.out⟩
    have Hlen : Hid (l.length + 1 ≤ 1000000) := by
      have h1 : (l.length : Int) ≤ q := (lineB_ok Hok.out).2.2.1
      have h2 : q ≤ 8 := (lineB_ok Hok.out).1.2.2.2.1
      show _ ≤ _
      omega
    have Hq : Hid (¬ q ≤ (l.length : Int)) := by have := Hm.out; show ¬ q ≤ (l.length : Int); omega
    cases one with
    | false =>
      obtain rfl : res = ([], 1) := Hres.out.symm.trans (joinQ_no Hok.out Hv.out Hq.out (nextB_bad Hone.out))
      have KP : Hid (∀ w', Below w1.heap.size w1 w' → (fun w' => Below w1.heap.size w1 w' ∧ (w'.cell? ⟨w.heap.size, 0, none⟩ = some (.int .i64 n) ∧ w'.cell? ⟨w.heap.size, 1, none⟩ = some (.int .i64 q) ∧ w'.cell? ⟨w.heap.size, 2, none⟩ = some (.int .i64 r) ∧ w'.cell? ⟨w.heap.size, 3, none⟩ = some (.int .i64 p) ∧ w'.cell? ⟨w.heap.size, 4, none⟩ = some (.int .i64 kk) ∧ w'.cell? ⟨w.heap.size, 5, none⟩ = some (.int .i64 cc)) ∧ (w'.cell? ⟨w.heap.size + 1, 0, none⟩ = some (.int .i64 t) ∧ w'.cell? ⟨w.heap.size + 1, 1, none⟩ = some (.int .i64 u) ∧ w'.cell? ⟨w.heap.size + 1, 2, none⟩ = some (.int .i64 v))) w') :=
        fun w' h => ⟨h, config_cells (HW1.out.later h HW1.out.lt), rq_cells (HX1.out.later h HX1.out.lt)⟩
      go_wp2_with fail
      refine wp_region_held_drew (S := (fun w' => Below w1.heap.size w1 w' ∧ (w'.cell? ⟨w.heap.size, 0, none⟩ = some (.int .i64 n) ∧ w'.cell? ⟨w.heap.size, 1, none⟩ = some (.int .i64 q) ∧ w'.cell? ⟨w.heap.size, 2, none⟩ = some (.int .i64 r) ∧ w'.cell? ⟨w.heap.size, 3, none⟩ = some (.int .i64 p) ∧ w'.cell? ⟨w.heap.size, 4, none⟩ = some (.int .i64 kk) ∧ w'.cell? ⟨w.heap.size, 5, none⟩ = some (.int .i64 cc)) ∧ (w'.cell? ⟨w.heap.size + 1, 0, none⟩ = some (.int .i64 t) ∧ w'.cell? ⟨w.heap.size + 1, 1, none⟩ = some (.int .i64 u) ∧ w'.cell? ⟨w.heap.size + 1, 2, none⟩ = some (.int .i64 v)))) (by kernel_rfl) (KP.out _ (Below.refl _ _).drew) (fun hHeld => ?_)
      refine wpAnyH_take (i := 0) (oi := ⟨some 28, _, _, _, _, _⟩) (v := ?_) rfl (by kernel_rfl) (by kernel_rfl) (by kernel_rfl) (fun _ _ _ h => h) (Or.inl ⟨by rfl, ?_⟩) (by assumption) ?_
      rotate_left 1
      · intro w hSw
        try dsimp only at hSw
        go_simp
        try with_reducible rfl
      simp only [Act.put, List.setIfInBounds_toArray, List.set_cons_zero, List.set_cons_succ]
      refine wpAnyH_take (i := 1) (oi := ⟨some 29, _, _, _, _, _⟩) (v := ?_) rfl (by kernel_rfl) (by kernel_rfl) (by kernel_rfl) (fun _ _ _ h => h) (Or.inl ⟨by rfl, ?_⟩) (by assumption) ?_
      rotate_left 1
      · intro w hSw
        try dsimp only at hSw
        go_simp
        try with_reducible rfl
      simp only [Act.put, List.setIfInBounds_toArray, List.set_cons_zero, List.set_cons_succ]
      refine wpAnyH_take (i := 2) (oi := ⟨some 30, _, _, _, _, _⟩) (v := ?_) rfl (by kernel_rfl) (by kernel_rfl) (by kernel_rfl) (fun _ _ _ h => h) (Or.inl ⟨by rfl, ?_⟩) (by assumption) ?_
      rotate_left 1
      · intro w hSw
        try dsimp only at hSw
        go_simp
        try with_reducible rfl
      simp only [Act.put, List.setIfInBounds_toArray, List.set_cons_zero, List.set_cons_succ]
      refine wpAnyH_ready (rs := [3]) (by kernel_rfl) (by simp) ?_
      refine AllReadyH.cons rfl (fun K hK => ?_) AllReadyH.nil
      go_simp
      go_wp2_with (go_at_call 14; refine (refone_calls ⟨n, q, r, p, kk, cc⟩ who ⟨t, u, v⟩ _).mono ?_; rw [Hone.out]; rintro ee wo ⟨rfl, hb2⟩; have hS1 := held_next hHeld.1 hb2)
      refine hK.out _ _ (KP.out _ hS1) (fun hHeld2 => ?_)
      clear hHeld hK K
      have hHeld := hHeld2
      clear hHeld2
      refine wpAnyH_take (i := 4) (oi := ⟨some 32, _, _, _, _, _⟩) (v := ?_) rfl (by kernel_rfl) (by kernel_rfl) (by kernel_rfl) (fun _ _ _ h => h) (Or.inl ⟨by rfl, ?_⟩) (by assumption) ?_
      rotate_left 1
      · intro w hSw
        try dsimp only at hSw
        go_simp
        try with_reducible rfl
      simp only [Act.put, List.setIfInBounds_toArray, List.set_cons_zero, List.set_cons_succ]
      refine wpAnyH_take (i := 5) (oi := ⟨some 33, _, _, _, _, _⟩) (v := ?_) rfl (by kernel_rfl) (by kernel_rfl) (by kernel_rfl) (fun _ _ _ h => h) (Or.inl ⟨by rfl, ?_⟩) (by assumption) ?_
      rotate_left 1
      · intro w hSw
        try dsimp only at hSw
        go_simp
        try with_reducible rfl
      simp only [Act.put, List.setIfInBounds_toArray, List.set_cons_zero, List.set_cons_succ]
      refine wpAnyH_take (i := 6) (oi := ⟨some 34, _, _, _, _, _⟩) (v := undef) rfl (by kernel_rfl) (by kernel_rfl) (by kernel_rfl) (fun _ _ _ h => h) (Or.inr ⟨by rfl, rfl⟩) (by assumption) ?_
      simp only [Act.put, List.setIfInBounds_toArray, List.set_cons_zero, List.set_cons_succ]
      refine wpAnyH_take (i := 7) (oi := ⟨some 35, _, _, _, _, _⟩) (v := undef) rfl (by kernel_rfl) (by kernel_rfl) (by kernel_rfl) (fun _ _ _ h => h) (Or.inr ⟨by rfl, rfl⟩) (by assumption) ?_
      simp only [Act.put, List.setIfInBounds_toArray, List.set_cons_zero, List.set_cons_succ]
      refine wpAnyH_take (i := 8) (oi := ⟨some 36, _, _, _, _, _⟩) (v := undef) rfl (by kernel_rfl) (by kernel_rfl) (by kernel_rfl) (fun _ _ _ h => h) (Or.inr ⟨by rfl, rfl⟩) (by assumption) ?_
      simp only [Act.put, List.setIfInBounds_toArray, List.set_cons_zero, List.set_cons_succ]
      refine wpAnyH_take (i := 9) (oi := ⟨some 37, _, _, _, _, _⟩) (v := undef) rfl (by kernel_rfl) (by kernel_rfl) (by kernel_rfl) (fun _ _ _ h => h) (Or.inr ⟨by rfl, rfl⟩) (by assumption) ?_
      simp only [Act.put, List.setIfInBounds_toArray, List.set_cons_zero, List.set_cons_succ]
      refine wpAnyH_take (i := 10) (oi := ⟨some 38, _, _, _, _, _⟩) (v := undef) rfl (by kernel_rfl) (by kernel_rfl) (by kernel_rfl) (fun _ _ _ h => h) (Or.inr ⟨by rfl, rfl⟩) (by assumption) ?_
      simp only [Act.put, List.setIfInBounds_toArray, List.set_cons_zero, List.set_cons_succ]
      refine wpAnyH_take (i := 11) (oi := ⟨some 39, _, _, _, _, _⟩) (v := undef) rfl (by kernel_rfl) (by kernel_rfl) (by kernel_rfl) (fun _ _ _ h => h) (Or.inr ⟨by rfl, rfl⟩) (by assumption) ?_
      simp only [Act.put, List.setIfInBounds_toArray, List.set_cons_zero, List.set_cons_succ]
      refine wpAnyH_take (i := 12) (oi := ⟨some 40, _, _, _, _, _⟩) (v := undef) rfl (by kernel_rfl) (by kernel_rfl) (by kernel_rfl) (fun _ _ _ h => h) (Or.inr ⟨by rfl, rfl⟩) (by assumption) ?_
      simp only [Act.put, List.setIfInBounds_toArray, List.set_cons_zero, List.set_cons_succ]
      refine wpAnyH_take (i := 13) (oi := ⟨some 41, _, _, _, _, _⟩) (v := undef) rfl (by kernel_rfl) (by kernel_rfl) (by kernel_rfl) (fun _ _ _ h => h) (Or.inr ⟨by rfl, rfl⟩) (by assumption) ?_
      simp only [Act.put, List.setIfInBounds_toArray, List.set_cons_zero, List.set_cons_succ]
      refine wpAnyH_take (i := 14) (oi := ⟨some 42, _, _, _, _, _⟩) (v := undef) rfl (by kernel_rfl) (by kernel_rfl) (by kernel_rfl) (fun _ _ _ h => h) (Or.inr ⟨by rfl, rfl⟩) (by assumption) ?_
      simp only [Act.put, List.setIfInBounds_toArray, List.set_cons_zero, List.set_cons_succ]
      refine wpAnyH_take (i := 15) (oi := ⟨some 43, _, _, _, _, _⟩) (v := undef) rfl (by kernel_rfl) (by kernel_rfl) (by kernel_rfl) (fun _ _ _ h => h) (Or.inr ⟨by rfl, rfl⟩) (by assumption) ?_
      simp only [Act.put, List.setIfInBounds_toArray, List.set_cons_zero, List.set_cons_succ]
      refine wpAnyH_take (i := 16) (oi := ⟨some 44, _, _, _, _, _⟩) (v := undef) rfl (by kernel_rfl) (by kernel_rfl) (by kernel_rfl) (fun _ _ _ h => h) (Or.inr ⟨by rfl, rfl⟩) (by assumption) ?_
      simp only [Act.put, List.setIfInBounds_toArray, List.set_cons_zero, List.set_cons_succ]
      refine wpAnyH_take (i := 17) (oi := ⟨some 45, _, _, _, _, _⟩) (v := undef) rfl (by kernel_rfl) (by kernel_rfl) (by kernel_rfl) (fun _ _ _ h => h) (Or.inr ⟨by rfl, rfl⟩) (by assumption) ?_
      simp only [Act.put, List.setIfInBounds_toArray, List.set_cons_zero, List.set_cons_succ]
      refine wpAnyH_take (i := 18) (oi := ⟨some 46, _, _, _, _, _⟩) (v := undef) rfl (by kernel_rfl) (by kernel_rfl) (by kernel_rfl) (fun _ _ _ h => h) (Or.inr ⟨by rfl, rfl⟩) (by assumption) ?_
      simp only [Act.put, List.setIfInBounds_toArray, List.set_cons_zero, List.set_cons_succ]
      refine wpAnyH_take (i := 19) (oi := ⟨some 47, _, _, _, _, _⟩) (v := undef) rfl (by kernel_rfl) (by kernel_rfl) (by kernel_rfl) (fun _ _ _ h => h) (Or.inr ⟨by rfl, rfl⟩) (by assumption) ?_
      simp only [Act.put, List.setIfInBounds_toArray, List.set_cons_zero, List.set_cons_succ]
      refine wpAnyH_take (i := 20) (oi := ⟨some 48, _, _, _, _, _⟩) (v := undef) rfl (by kernel_rfl) (by kernel_rfl) (by kernel_rfl) (fun _ _ _ h => h) (Or.inr ⟨by rfl, rfl⟩) (by assumption) ?_
      simp only [Act.put, List.setIfInBounds_toArray, List.set_cons_zero, List.set_cons_succ]
      refine wpAnyH_take (i := 21) (oi := ⟨some 49, _, _, _, _, _⟩) (v := undef) rfl (by kernel_rfl) (by kernel_rfl) (by kernel_rfl) (fun _ _ _ h => h) (Or.inr ⟨by rfl, rfl⟩) (by assumption) ?_
      simp only [Act.put, List.setIfInBounds_toArray, List.set_cons_zero, List.set_cons_succ]
      refine wpAnyH_take (i := 22) (oi := ⟨some 50, _, _, _, _, _⟩) (v := ?_) rfl (by kernel_rfl) (by kernel_rfl) (by kernel_rfl) (fun _ _ _ h => h) (Or.inl ⟨by rfl, ?_⟩) (by assumption) ?_
      rotate_left 1
      · intro w hSw
        try dsimp only at hSw
        go_simp
        try with_reducible rfl
      simp only [Act.put, List.setIfInBounds_toArray, List.set_cons_zero, List.set_cons_succ]
      refine wpAnyH_done (by kernel_rfl) ?_ _
      have HbN := Lib.hid (held_next Hb1.out hHeld.1)
      clear hHeld
      go_wp2_with fail
      go_ret2
      exact ⟨none, 0, by rfl, Line.nil _ _ _ (fun _ => rfl), HbN.out⟩
    | true =>
      by_cases hk0 : m = 0
      · have s5 : decide ((0 : Int) < (m : Int)) = false := decide_eq_false (by omega)
        have s6 : decide (0 < m) = false := decide_eq_false (by omega)
        obtain rfl : res = (l ++ [⟨t, u, v⟩], 0) := Hres.out.symm.trans (joinQ_yes Hok.out Hv.out Hq.out (nextB_first Hone.out (by have := Hm.out; omega)))
        have Hk0 := Lib.hid hk0; clear hk0
        have KP : Hid (∀ w', Below w1.heap.size w1 w' → (fun w' => Below w1.heap.size w1 w' ∧ (w'.cell? ⟨w.heap.size, 0, none⟩ = some (.int .i64 n) ∧ w'.cell? ⟨w.heap.size, 1, none⟩ = some (.int .i64 q) ∧ w'.cell? ⟨w.heap.size, 2, none⟩ = some (.int .i64 r) ∧ w'.cell? ⟨w.heap.size, 3, none⟩ = some (.int .i64 p) ∧ w'.cell? ⟨w.heap.size, 4, none⟩ = some (.int .i64 kk) ∧ w'.cell? ⟨w.heap.size, 5, none⟩ = some (.int .i64 cc)) ∧ (w'.cell? ⟨w.heap.size + 1, 0, none⟩ = some (.int .i64 t) ∧ w'.cell? ⟨w.heap.size + 1, 1, none⟩ = some (.int .i64 u) ∧ w'.cell? ⟨w.heap.size + 1, 2, none⟩ = some (.int .i64 v))) w') :=
          fun w' h => ⟨h, config_cells (HW1.out.later h HW1.out.lt), rq_cells (HX1.out.later h HX1.out.lt)⟩
        go_wp2_with fail
        refine wp_region_held_drew (S := (fun w' => Below w1.heap.size w1 w' ∧ (w'.cell? ⟨w.heap.size, 0, none⟩ = some (.int .i64 n) ∧ w'.cell? ⟨w.heap.size, 1, none⟩ = some (.int .i64 q) ∧ w'.cell? ⟨w.heap.size, 2, none⟩ = some (.int .i64 r) ∧ w'.cell? ⟨w.heap.size, 3, none⟩ = some (.int .i64 p) ∧ w'.cell? ⟨w.heap.size, 4, none⟩ = some (.int .i64 kk) ∧ w'.cell? ⟨w.heap.size, 5, none⟩ = some (.int .i64 cc)) ∧ (w'.cell? ⟨w.heap.size + 1, 0, none⟩ = some (.int .i64 t) ∧ w'.cell? ⟨w.heap.size + 1, 1, none⟩ = some (.int .i64 u) ∧ w'.cell? ⟨w.heap.size + 1, 2, none⟩ = some (.int .i64 v)))) (by kernel_rfl) (KP.out _ (Below.refl _ _).drew) (fun hHeld => ?_)
        refine wpAnyH_take (i := 0) (oi := ⟨some 28, _, _, _, _, _⟩) (v := ?_) rfl (by kernel_rfl) (by kernel_rfl) (by kernel_rfl) (fun _ _ _ h => h) (Or.inl ⟨by rfl, ?_⟩) (by assumption) ?_
        rotate_left 1
        · intro w hSw
          try dsimp only at hSw
          go_simp
          try with_reducible rfl
        simp only [Act.put, List.setIfInBounds_toArray, List.set_cons_zero, List.set_cons_succ]
        refine wpAnyH_take (i := 1) (oi := ⟨some 29, _, _, _, _, _⟩) (v := ?_) rfl (by kernel_rfl) (by kernel_rfl) (by kernel_rfl) (fun _ _ _ h => h) (Or.inl ⟨by rfl, ?_⟩) (by assumption) ?_
        rotate_left 1
        · intro w hSw
          try dsimp only at hSw
          go_simp
          try with_reducible rfl
        simp only [Act.put, List.setIfInBounds_toArray, List.set_cons_zero, List.set_cons_succ]
        refine wpAnyH_take (i := 2) (oi := ⟨some 30, _, _, _, _, _⟩) (v := ?_) rfl (by kernel_rfl) (by kernel_rfl) (by kernel_rfl) (fun _ _ _ h => h) (Or.inl ⟨by rfl, ?_⟩) (by assumption) ?_
        rotate_left 1
        · intro w hSw
          try dsimp only at hSw
          go_simp
          try with_reducible rfl
        simp only [Act.put, List.setIfInBounds_toArray, List.set_cons_zero, List.set_cons_succ]
        refine wpAnyH_ready (rs := [3]) (by kernel_rfl) (by simp) ?_
        refine AllReadyH.cons rfl (fun K hK => ?_) AllReadyH.nil
        go_simp
        go_wp2_with (go_at_call 14; refine (refone_calls ⟨n, q, r, p, kk, cc⟩ who ⟨t, u, v⟩ _).mono ?_; rw [Hone.out]; rintro ee wo ⟨rfl, hb2⟩; have hS1 := held_next hHeld.1 hb2)
        refine hK.out _ _ (KP.out _ hS1) (fun hHeld2 => ?_)
        clear hHeld hK K
        have hHeld := hHeld2
        clear hHeld2
        refine wpAnyH_take (i := 4) (oi := ⟨some 32, _, _, _, _, _⟩) (v := ?_) rfl (by kernel_rfl) (by kernel_rfl) (by kernel_rfl) (fun _ _ _ h => h) (Or.inl ⟨by rfl, ?_⟩) (by assumption) ?_
        rotate_left 1
        · intro w hSw
          try dsimp only at hSw
          go_simp
          try with_reducible rfl
        simp only [Act.put, List.setIfInBounds_toArray, List.set_cons_zero, List.set_cons_succ]
        refine wpAnyH_take (i := 5) (oi := ⟨some 33, _, _, _, _, _⟩) (v := ?_) rfl (by kernel_rfl) (by kernel_rfl) (by kernel_rfl) (fun _ _ _ h => h) (Or.inl ⟨by rfl, ?_⟩) (by assumption) ?_
        rotate_left 1
        · intro w hSw
          try dsimp only at hSw
          go_simp
          try with_reducible rfl
        simp only [Act.put, List.setIfInBounds_toArray, List.set_cons_zero, List.set_cons_succ]
        refine wpAnyH_take (i := 6) (oi := ⟨some 34, _, _, _, _, _⟩) (v := ?_) rfl (by kernel_rfl) (by kernel_rfl) (by kernel_rfl) (fun _ _ _ h => h) (Or.inl ⟨by rfl, ?_⟩) (by assumption) ?_
        rotate_left 1
        · intro w hSw
          try dsimp only at hSw
          go_simp
          try with_reducible rfl
        simp only [Act.put, List.setIfInBounds_toArray, List.set_cons_zero, List.set_cons_succ]
        refine wpAnyH_take (i := 7) (oi := ⟨some 35, _, _, _, _, _⟩) (v := ?_) rfl (by kernel_rfl) (by kernel_rfl) (by kernel_rfl) (fun _ _ _ h => h) (Or.inl ⟨by rfl, ?_⟩) (by assumption) ?_
        rotate_left 1
        · intro w hSw
          try dsimp only at hSw
          go_simp
          try with_reducible rfl
        simp only [Act.put, List.setIfInBounds_toArray, List.set_cons_zero, List.set_cons_succ]
        refine wpAnyH_take (i := 8) (oi := ⟨some 36, _, _, _, _, _⟩) (v := ?_) rfl (by kernel_rfl) (by kernel_rfl) (by kernel_rfl) (fun _ _ _ h => h) (Or.inl ⟨by rfl, ?_⟩) (by assumption) ?_
        rotate_left 1
        · intro w hSw
          try dsimp only at hSw
          go_simp
          try simp only [s5, s6]
          try with_reducible rfl
        simp only [Act.put, List.setIfInBounds_toArray, List.set_cons_zero, List.set_cons_succ]
        refine wpAnyH_take (i := 9) (oi := ⟨some 37, _, _, _, _, _⟩) (v := ?_) rfl (by kernel_rfl) (by kernel_rfl) (by kernel_rfl) (fun _ _ _ h => h) (Or.inl ⟨by rfl, ?_⟩) (by assumption) ?_
        rotate_left 1
        · intro w hSw
          try dsimp only at hSw
          go_simp
          try simp only [s5, s6]
          try with_reducible rfl
        simp only [Act.put, List.setIfInBounds_toArray, List.set_cons_zero, List.set_cons_succ]
        refine wpAnyH_take (i := 10) (oi := ⟨some 38, _, _, _, _, _⟩) (v := undef) rfl (by kernel_rfl) (by kernel_rfl) (by kernel_rfl) (fun _ _ _ h => h) (Or.inr ⟨by rfl, rfl⟩) (by assumption) ?_
        simp only [Act.put, List.setIfInBounds_toArray, List.set_cons_zero, List.set_cons_succ]
        refine wpAnyH_take (i := 11) (oi := ⟨some 39, _, _, _, _, _⟩) (v := undef) rfl (by kernel_rfl) (by kernel_rfl) (by kernel_rfl) (fun _ _ _ h => h) (Or.inr ⟨by rfl, rfl⟩) (by assumption) ?_
        simp only [Act.put, List.setIfInBounds_toArray, List.set_cons_zero, List.set_cons_succ]
        refine wpAnyH_take (i := 12) (oi := ⟨some 40, _, _, _, _, _⟩) (v := undef) rfl (by kernel_rfl) (by kernel_rfl) (by kernel_rfl) (fun _ _ _ h => h) (Or.inr ⟨by rfl, rfl⟩) (by assumption) ?_
        simp only [Act.put, List.setIfInBounds_toArray, List.set_cons_zero, List.set_cons_succ]
        refine wpAnyH_take (i := 13) (oi := ⟨some 41, _, _, _, _, _⟩) (v := undef) rfl (by kernel_rfl) (by kernel_rfl) (by kernel_rfl) (fun _ _ _ h => h) (Or.inr ⟨by rfl, rfl⟩) (by assumption) ?_
        simp only [Act.put, List.setIfInBounds_toArray, List.set_cons_zero, List.set_cons_succ]
        refine wpAnyH_take (i := 14) (oi := ⟨some 42, _, _, _, _, _⟩) (v := undef) rfl (by kernel_rfl) (by kernel_rfl) (by kernel_rfl) (fun _ _ _ h => h) (Or.inr ⟨by rfl, rfl⟩) (by assumption) ?_
        simp only [Act.put, List.setIfInBounds_toArray, List.set_cons_zero, List.set_cons_succ]
        refine wpAnyH_take (i := 15) (oi := ⟨some 43, _, _, _, _, _⟩) (v := undef) rfl (by kernel_rfl) (by kernel_rfl) (by kernel_rfl) (fun _ _ _ h => h) (Or.inr ⟨by rfl, rfl⟩) (by assumption) ?_
        simp only [Act.put, List.setIfInBounds_toArray, List.set_cons_zero, List.set_cons_succ]
        refine wpAnyH_take (i := 16) (oi := ⟨some 44, _, _, _, _, _⟩) (v := undef) rfl (by kernel_rfl) (by kernel_rfl) (by kernel_rfl) (fun _ _ _ h => h) (Or.inr ⟨by rfl, rfl⟩) (by assumption) ?_
        simp only [Act.put, List.setIfInBounds_toArray, List.set_cons_zero, List.set_cons_succ]
        refine wpAnyH_take (i := 17) (oi := ⟨some 45, _, _, _, _, _⟩) (v := undef) rfl (by kernel_rfl) (by kernel_rfl) (by kernel_rfl) (fun _ _ _ h => h) (Or.inr ⟨by rfl, rfl⟩) (by assumption) ?_
        simp only [Act.put, List.setIfInBounds_toArray, List.set_cons_zero, List.set_cons_succ]
        refine wpAnyH_take (i := 18) (oi := ⟨some 46, _, _, _, _, _⟩) (v := undef) rfl (by kernel_rfl) (by kernel_rfl) (by kernel_rfl) (fun _ _ _ h => h) (Or.inr ⟨by rfl, rfl⟩) (by assumption) ?_
        simp only [Act.put, List.setIfInBounds_toArray, List.set_cons_zero, List.set_cons_succ]
        refine wpAnyH_take (i := 19) (oi := ⟨some 47, _, _, _, _, _⟩) (v := undef) rfl (by kernel_rfl) (by kernel_rfl) (by kernel_rfl) (fun _ _ _ h => h) (Or.inr ⟨by rfl, rfl⟩) (by assumption) ?_
        simp only [Act.put, List.setIfInBounds_toArray, List.set_cons_zero, List.set_cons_succ]
        refine wpAnyH_take (i := 20) (oi := ⟨some 48, _, _, _, _, _⟩) (v := undef) rfl (by kernel_rfl) (by kernel_rfl) (by kernel_rfl) (fun _ _ _ h => h) (Or.inr ⟨by rfl, rfl⟩) (by assumption) ?_
        simp only [Act.put, List.setIfInBounds_toArray, List.set_cons_zero, List.set_cons_succ]
        refine wpAnyH_take (i := 21) (oi := ⟨some 49, _, _, _, _, _⟩) (v := ?_) rfl (by kernel_rfl) (by kernel_rfl) (by kernel_rfl) (fun _ _ _ h => h) (Or.inl ⟨by rfl, ?_⟩) (by assumption) ?_
        rotate_left 1
        · intro w hSw
          try dsimp only at hSw
          go_simp
          try with_reducible rfl
        simp only [Act.put, List.setIfInBounds_toArray, List.set_cons_zero, List.set_cons_succ]
        refine wpAnyH_take (i := 22) (oi := ⟨some 50, _, _, _, _, _⟩) (v := ?_) rfl (by kernel_rfl) (by kernel_rfl) (by kernel_rfl) (fun _ _ _ h => h) (Or.inl ⟨by rfl, ?_⟩) (by assumption) ?_
        rotate_left 1
        · intro w hSw
          try dsimp only at hSw
          go_simp
          try with_reducible rfl
        simp only [Act.put, List.setIfInBounds_toArray, List.set_cons_zero, List.set_cons_succ]
        refine wpAnyH_done (by kernel_rfl) ?_ _
        have HbN := Lib.hid (held_next Hb1.out hHeld.1)
        have HXN := Lib.hid (HX1.out.later hHeld.1 HX1.out.lt)
        have HBN := Lib.hid (HB.out.later (held_next Hb1.out hHeld.1))
        clear hHeld KP HW1 HX1
        clear f0 f1 f2 d0 d1 d2 d3 d4 d5
        go_wp2_with fail
        skip
        refine wp_region_each_at ?hm ?hb (fun a0 d a' w' => ∃ (e0 e1 e2 e3 e4 e5 e6 e7 : Value), a' = putAll a0 [(51, e0), (52, e1), (53, e2), (54, e3), (55, e4), (56, e5), (8, e6), (9, e7)] ∧ Below wo.heap.size wo w' ∧ (d 0 = true → (d 2 = false → OwnQ w' wo.heap.size e0 [])) ∧ (d 1 = true → e1 = (.slice a m cp)) ∧ (d 2 = true → (d 5 = false → OwnQ w' wo.heap.size e2 l)) ∧ (d 3 = true → e3 = (rqV ⟨t, u, v⟩)) ∧ (d 4 = true → (d 5 = false → OneQ w' (d 0) (d 2) e0 e2 e4 ⟨t, u, v⟩)) ∧ (d 5 = true → d 2 = true ∧ OwnQ w' (wo.heap.size) e5 (l ++ [⟨t, u, v⟩])) ∧ (d 6 = true → d 5 = true ∧ OwnQ w' (wo.heap.size) e6 (l ++ [⟨t, u, v⟩])) ∧ (d 7 = true → e7 = .int .i64 0)) ?h0 ?step ?ends
        case hm => kernel_rfl
        case hb => kernel_rfl
        case h0 =>
          refine ⟨undef, undef, undef, undef, undef, undef, .slice none 0 0, .int .i64 0, ?_, (Below.refl _ _).drew, fun h => absurd h (by decide), fun h => absurd h (by decide), fun h => absurd h (by decide), fun h => absurd h (by decide), fun h => absurd h (by decide), fun h => absurd h (by decide), fun h => absurd h (by decide), fun h => absurd h (by decide)⟩
          simp only [putAll, Act.put, List.setIfInBounds_toArray, List.set_cons_zero, List.set_cons_succ]
        case step =>
          intro i d a' w' hi hJ hd hk
          obtain ⟨e0, e1, e2, e3, e4, e5, e6, e7, rfl, hB, c0, c1, c2, c3, c4, c5, c6, c7⟩ := hJ
          match i, hi, hd, hk with
          | 0, _, hd, hk =>
            have hb := below_box w' (.cells #[] 28)
            have hq0 : OwnQ (w'.alloc (.cells #[] 28)) (wo.heap.size) (.slice (some ⟨w'.heap.size, 0, none⟩) 0 0) [] := own_whole (cs := #[]) (Whole.made w' _ _) hB.size rfl (by decide)
            apply wpOp_at
            case ho => rfl
            intro K hK
            simp only [putAll, Act.put, List.setIfInBounds_toArray, List.set_cons_zero, List.set_cons_succ]
            go_simp
            refine hK _ _ ⟨.slice (some ⟨w'.heap.size, 0, none⟩) 0 0, e1, e2, e3, e4, e5, e6, e7, ?_, hB.trans (hb.mono hB.size), fun _ => fun _ => hq0, c1, fun h h' => ownQ_later (c2 h h') hb, c3, fun h h' => (c4 h h').made0 hb, fun h => ⟨(c5 h).1, ownQ_later (c5 h).2 hb⟩, fun h => ⟨(c6 h).1, ownQ_later (c6 h).2 hb⟩, c7⟩
            simp only [putAll, Act.put, List.setIfInBounds_toArray, List.set_cons_zero, List.set_cons_succ]
          | 1, _, hd, hk =>
            apply wpOp_at
            case ho => rfl
            intro K hK
            simp only [putAll, Act.put, List.setIfInBounds_toArray, List.set_cons_zero, List.set_cons_succ]
            go_simp
            refine hK _ _ ⟨e0, (.slice a m cp), e2, e3, e4, e5, e6, e7, ?_, hB, c0, fun _ => rfl, c2, c3, c4, c5, c6, c7⟩
            simp only [putAll, Act.put, List.setIfInBounds_toArray, List.set_cons_zero, List.set_cons_succ]
          | 2, _, hd, hk =>
            have h0 : d 0 = true := hk 0 (by decide +kernel)
            have h1 : d 1 = true := hk 1 (by decide +kernel)
            obtain rfl := c1 h1
            obtain ⟨v9, w9, hrun9, q9, b9, g9⟩ := run_append_line (c0 h0 hd) (HBN.out.later hB) Hm.out (by have := Hlen.out; simp only [List.length_nil]; omega) hB.size
            rw [List.nil_append] at q9
            obtain ⟨hf9, hv9, hw9⟩ := fine_of hrun9
            clear hrun9
            apply wpOp_at
            case ho => rfl
            intro K hK
            simp only [putAll, Act.put, List.setIfInBounds_toArray, List.set_cons_zero, List.set_cons_succ]
            go_simp
            refine hK _ _ ⟨e0, (.slice a m cp), v9, e3, e4, e5, e6, e7, ?_, hB.trans b9, fun _ h => Bool.noConfusion (show true = false from h), c1, fun _ => fun _ => q9, c3, fun h h' => OneQ.grown (by rw [← hd]; exact c4 h h') h0 g9, fun h => absurd ((c5 h).1.symm.trans hd) (by decide), fun h => absurd ((c5 (c6 h).1).1.symm.trans hd) (by decide), c7⟩
            simp only [putAll, Act.put, List.setIfInBounds_toArray, List.set_cons_zero, List.set_cons_succ]
          | 3, _, hd, hk =>
            obtain ⟨z0, z1, z2⟩ := rq_cells (HXN.out.later hB HXN.out.lt)
            apply wpOp_at
            case ho => rfl
            intro K hK
            simp only [putAll, Act.put, List.setIfInBounds_toArray, List.set_cons_zero, List.set_cons_succ]
            go_simp
            refine hK _ _ ⟨e0, e1, e2, (rqV ⟨t, u, v⟩), e4, e5, e6, e7, ?_, hB, c0, c1, c2, fun _ => rfl, c4, c5, c6, c7⟩
            simp only [putAll, Act.put, List.setIfInBounds_toArray, List.set_cons_zero, List.set_cons_succ]
          | 4, _, hd, hk =>
            have h3 : d 3 = true := hk 3 (by decide +kernel)
            obtain rfl := c3 h3
            have hb := below_box w' (.cells (rqCells ⟨t, u, v⟩) 28)
            apply wpOp_at
            case ho => rfl
            intro K hK
            simp only [putAll, Act.put, List.setIfInBounds_toArray, List.set_cons_zero, List.set_cons_succ]
            go_simp
            refine hK _ _ ⟨e0, e1, e2, (rqV ⟨t, u, v⟩), .slice (some ⟨w'.heap.size, 0, none⟩) 1 1, e5, e6, e7, ?_, hB.trans (hb.mono hB.size), fun h h' => ownQ_later (c0 h h') hb, c1, fun h h' => ownQ_later (c2 h h') hb, c3, fun _ => fun h5 => OneQ.made (Whole.made w' _ _) (fun h h' => own_past (c0 h h') (Nat.le_refl _)) (fun h => own_past (c2 h h5) (Nat.le_refl _)), fun h => ⟨(c5 h).1, ownQ_later (c5 h).2 hb⟩, fun h => ⟨(c6 h).1, ownQ_later (c6 h).2 hb⟩, c7⟩
            simp only [putAll, Act.put, List.setIfInBounds_toArray, List.set_cons_zero, List.set_cons_succ]
          | 5, _, hd, hk =>
            have h2 : d 2 = true := hk 2 (by decide +kernel)
            have h4 : d 4 = true := hk 4 (by decide +kernel)
            obtain ⟨g4, rfl, hx4⟩ := (c4 h4 hd).line
            obtain ⟨v9, w9, hrun9, q9, b9, g9⟩ := run_append_line (c2 h2 hd) hx4 rfl (by have := Hlen.out; simp only [List.length_singleton]; omega) hB.size
            obtain ⟨hf9, hv9, hw9⟩ := fine_of hrun9
            clear hrun9
            apply wpOp_at
            case ho => rfl
            intro K hK
            simp only [putAll, Act.put, List.setIfInBounds_toArray, List.set_cons_zero, List.set_cons_succ]
            go_simp
            refine hK _ _ ⟨e0, e1, e2, e3, .slice (some ⟨g4, 0, none⟩) 1 1, v9, e6, e7, ?_, hB.trans b9, fun _ h' => absurd (h2.symm.trans h') (by decide), c1, fun _ h => Bool.noConfusion (show true = false from h), c3, fun _ h => Bool.noConfusion (show true = false from h), fun _ => ⟨h2, q9⟩, fun h => absurd ((c6 h).1.symm.trans hd) (by decide), c7⟩
            simp only [putAll, Act.put, List.setIfInBounds_toArray, List.set_cons_zero, List.set_cons_succ]
          | 6, _, hd, hk =>
            have h0 : d 0 = true := hk 0 (by decide +kernel)
            have h1 : d 1 = true := hk 1 (by decide +kernel)
            have h2 : d 2 = true := hk 2 (by decide +kernel)
            have h3 : d 3 = true := hk 3 (by decide +kernel)
            have h4 : d 4 = true := hk 4 (by decide +kernel)
            have h5 : d 5 = true := hk 5 (by decide +kernel)
            obtain rfl := c1 h1
            obtain rfl := c3 h3
            apply wpOp_at
            case ho => rfl
            intro K hK
            simp only [putAll, Act.put, List.setIfInBounds_toArray, List.set_cons_zero, List.set_cons_succ]
            go_simp
            refine hK _ _ ⟨e0, (.slice a m cp), e2, (rqV ⟨t, u, v⟩), e4, e5, e5, e7, ?_, hB, c0, c1, c2, c3, c4, c5, fun _ => ⟨h5, (c5 h5).2⟩, c7⟩
            simp only [putAll, Act.put, List.setIfInBounds_toArray, List.set_cons_zero, List.set_cons_succ]
          | 7, _, hd, hk =>
            have h0 : d 0 = true := hk 0 (by decide +kernel)
            have h1 : d 1 = true := hk 1 (by decide +kernel)
            have h2 : d 2 = true := hk 2 (by decide +kernel)
            have h3 : d 3 = true := hk 3 (by decide +kernel)
            have h4 : d 4 = true := hk 4 (by decide +kernel)
            have h5 : d 5 = true := hk 5 (by decide +kernel)
            have h6 : d 6 = true := hk 6 (by decide +kernel)
            obtain rfl := c1 h1
            obtain rfl := c3 h3
            apply wpOp_at
            case ho => rfl
            intro K hK
            simp only [putAll, Act.put, List.setIfInBounds_toArray, List.set_cons_zero, List.set_cons_succ]
            go_simp
            refine hK _ _ ⟨e0, (.slice a m cp), e2, (rqV ⟨t, u, v⟩), e4, e5, e6, .int .i64 0, ?_, hB, c0, c1, c2, c3, c4, c5, c6, fun _ => rfl⟩
            simp only [putAll, Act.put, List.setIfInBounds_toArray, List.set_cons_zero, List.set_cons_succ]
          | k + 8, hi, _, _ => exact absurd hi (by simp)
        case ends =>
          intro d a' w' hJ hall
          obtain ⟨e0, e1, e2, e3, e4, e5, e6, e7, rfl, hB, c0, c1, c2, c3, c4, c5, c6, c7⟩ := hJ
          obtain ⟨A, C, rfl, hl⟩ := (c6 (hall 6 (by decide +kernel))).2.line (by have := Hlen.out; rw [List.length_append, List.length_singleton]; omega)
          obtain rfl := c7 (hall 7 (by decide +kernel))
          have hbF := held_next HbN.out hB
          clear c0 c1 c2 c3 c4 c5 c6 c7 hall hB
          have Hl := Lib.hid hl
          have HbF := Lib.hid hbF
          clear hl hbF
          simp only [putAll, Act.put, List.setIfInBounds_toArray, List.set_cons_zero, List.set_cons_succ]
          go_wp2_with fail
          go_ret2
          exact ⟨A, C, by rfl, Hl.out, HbF.out⟩
      · obtain ⟨j, Hj⟩ : ∃ j, Hid (m = j + 1) := ⟨m - 1, show _ = _ by omega⟩
        have hj := Hj.out
        obtain ⟨b, off, hbo, e0, e1, _⟩ := HB.out.at (i := j) (by have := Hm.out; omega)
        subst hbo
        obtain ⟨y, Hy⟩ : ∃ z, Hid (rqAt l j = z) := ⟨_, rfl⟩
        rw [Hy.out] at e0 e1
        obtain ⟨o, Hold⟩ : ∃ z, Hid (olderB y.t y.a t u = z) := ⟨_, rfl⟩
        have s1 : IntKind.i64.wrap ((m : Int) - 1) = (j : Int) := by rw [IntWalk.i64_in _ (by omega)]; omega
        have s1' : (m : Int) - 1 = (j : Int) := by omega
        have s1'' : IntKind.i64.wrap (j : Int) = (j : Int) := IntWalk.i64_in _ (by omega)
        have s2 : (0 : Int) ≤ (j : Int) := by omega
        have s3 : (j : Int) < (m : Int) := by omega
        have s5 : decide ((0 : Int) < (m : Int)) = true := decide_eq_true (by omega)
        have s6 : decide (0 < m) = true := decide_eq_true (by omega)
        have hnx : nextB ⟨n, q, r, p, kk, cc⟩ who l ⟨t, u, v⟩ = o := by
          rw [nextB_more Hone.out (by have := Hm.out; omega), show l.length - 1 = j by have := Hm.out; omega, Hy.out]; exact Hold.out
        have Hnx := Lib.hid hnx; clear hnx
        have Hk0 := Lib.hid hk0; clear hk0 hj
        cases o with
        | false =>
          obtain rfl : res = ([], 1) := Hres.out.symm.trans (joinQ_no Hok.out Hv.out Hq.out Hnx.out)
          have KP : Hid (∀ w', Below w1.heap.size w1 w' → (fun w' => Below w1.heap.size w1 w' ∧ (w'.cell? ⟨w.heap.size, 0, none⟩ = some (.int .i64 n) ∧ w'.cell? ⟨w.heap.size, 1, none⟩ = some (.int .i64 q) ∧ w'.cell? ⟨w.heap.size, 2, none⟩ = some (.int .i64 r) ∧ w'.cell? ⟨w.heap.size, 3, none⟩ = some (.int .i64 p) ∧ w'.cell? ⟨w.heap.size, 4, none⟩ = some (.int .i64 kk) ∧ w'.cell? ⟨w.heap.size, 5, none⟩ = some (.int .i64 cc)) ∧ (w'.cell? ⟨w.heap.size + 1, 0, none⟩ = some (.int .i64 t) ∧ w'.cell? ⟨w.heap.size + 1, 1, none⟩ = some (.int .i64 u) ∧ w'.cell? ⟨w.heap.size + 1, 2, none⟩ = some (.int .i64 v)) ∧ (w'.cell? ⟨b, off + j * 3, none⟩ = some (.int .i64 y.t) ∧ w'.cell? ⟨b, off + j * 3 + 1, none⟩ = some (.int .i64 y.a))) w') :=
            fun w' h => ⟨h, config_cells (HW1.out.later h HW1.out.lt), rq_cells (HX1.out.later h HX1.out.lt), ⟨cell_later (held_next Hb1.out h) e0, cell_later (held_next Hb1.out h) e1⟩⟩
          clear e0 e1
          go_wp2_with fail
          refine wp_region_held_drew (S := (fun w' => Below w1.heap.size w1 w' ∧ (w'.cell? ⟨w.heap.size, 0, none⟩ = some (.int .i64 n) ∧ w'.cell? ⟨w.heap.size, 1, none⟩ = some (.int .i64 q) ∧ w'.cell? ⟨w.heap.size, 2, none⟩ = some (.int .i64 r) ∧ w'.cell? ⟨w.heap.size, 3, none⟩ = some (.int .i64 p) ∧ w'.cell? ⟨w.heap.size, 4, none⟩ = some (.int .i64 kk) ∧ w'.cell? ⟨w.heap.size, 5, none⟩ = some (.int .i64 cc)) ∧ (w'.cell? ⟨w.heap.size + 1, 0, none⟩ = some (.int .i64 t) ∧ w'.cell? ⟨w.heap.size + 1, 1, none⟩ = some (.int .i64 u) ∧ w'.cell? ⟨w.heap.size + 1, 2, none⟩ = some (.int .i64 v)) ∧ (w'.cell? ⟨b, off + j * 3, none⟩ = some (.int .i64 y.t) ∧ w'.cell? ⟨b, off + j * 3 + 1, none⟩ = some (.int .i64 y.a)))) (by kernel_rfl) (KP.out _ (Below.refl _ _).drew) (fun hHeld => ?_)
          refine wpAnyH_take (i := 0) (oi := ⟨some 28, _, _, _, _, _⟩) (v := ?_) rfl (by kernel_rfl) (by kernel_rfl) (by kernel_rfl) (fun _ _ _ h => h) (Or.inl ⟨by rfl, ?_⟩) (by assumption) ?_
          rotate_left 1
          · intro w hSw
            try dsimp only at hSw
            go_simp
            try with_reducible rfl
          simp only [Act.put, List.setIfInBounds_toArray, List.set_cons_zero, List.set_cons_succ]
          refine wpAnyH_take (i := 1) (oi := ⟨some 29, _, _, _, _, _⟩) (v := ?_) rfl (by kernel_rfl) (by kernel_rfl) (by kernel_rfl) (fun _ _ _ h => h) (Or.inl ⟨by rfl, ?_⟩) (by assumption) ?_
          rotate_left 1
          · intro w hSw
            try dsimp only at hSw
            go_simp
            try with_reducible rfl
          simp only [Act.put, List.setIfInBounds_toArray, List.set_cons_zero, List.set_cons_succ]
          refine wpAnyH_take (i := 2) (oi := ⟨some 30, _, _, _, _, _⟩) (v := ?_) rfl (by kernel_rfl) (by kernel_rfl) (by kernel_rfl) (fun _ _ _ h => h) (Or.inl ⟨by rfl, ?_⟩) (by assumption) ?_
          rotate_left 1
          · intro w hSw
            try dsimp only at hSw
            go_simp
            try with_reducible rfl
          simp only [Act.put, List.setIfInBounds_toArray, List.set_cons_zero, List.set_cons_succ]
          refine wpAnyH_ready (rs := [3]) (by kernel_rfl) (by simp) ?_
          refine AllReadyH.cons rfl (fun K hK => ?_) AllReadyH.nil
          go_simp
          go_wp2_with (go_at_call 14; refine (refone_calls ⟨n, q, r, p, kk, cc⟩ who ⟨t, u, v⟩ _).mono ?_; rw [Hone.out]; rintro ee wo ⟨rfl, hb2⟩; have hS1 := held_next hHeld.1 hb2)
          refine hK.out _ _ (KP.out _ hS1) (fun hHeld2 => ?_)
          clear hHeld hK K
          have hHeld := hHeld2
          clear hHeld2
          refine wpAnyH_take (i := 4) (oi := ⟨some 32, _, _, _, _, _⟩) (v := ?_) rfl (by kernel_rfl) (by kernel_rfl) (by kernel_rfl) (fun _ _ _ h => h) (Or.inl ⟨by rfl, ?_⟩) (by assumption) ?_
          rotate_left 1
          · intro w hSw
            try dsimp only at hSw
            go_simp
            try with_reducible rfl
          simp only [Act.put, List.setIfInBounds_toArray, List.set_cons_zero, List.set_cons_succ]
          refine wpAnyH_take (i := 5) (oi := ⟨some 33, _, _, _, _, _⟩) (v := ?_) rfl (by kernel_rfl) (by kernel_rfl) (by kernel_rfl) (fun _ _ _ h => h) (Or.inl ⟨by rfl, ?_⟩) (by assumption) ?_
          rotate_left 1
          · intro w hSw
            try dsimp only at hSw
            go_simp
            try with_reducible rfl
          simp only [Act.put, List.setIfInBounds_toArray, List.set_cons_zero, List.set_cons_succ]
          refine wpAnyH_take (i := 6) (oi := ⟨some 34, _, _, _, _, _⟩) (v := ?_) rfl (by kernel_rfl) (by kernel_rfl) (by kernel_rfl) (fun _ _ _ h => h) (Or.inl ⟨by rfl, ?_⟩) (by assumption) ?_
          rotate_left 1
          · intro w hSw
            try dsimp only at hSw
            go_simp
            try with_reducible rfl
          simp only [Act.put, List.setIfInBounds_toArray, List.set_cons_zero, List.set_cons_succ]
          refine wpAnyH_take (i := 7) (oi := ⟨some 35, _, _, _, _, _⟩) (v := ?_) rfl (by kernel_rfl) (by kernel_rfl) (by kernel_rfl) (fun _ _ _ h => h) (Or.inl ⟨by rfl, ?_⟩) (by assumption) ?_
          rotate_left 1
          · intro w hSw
            try dsimp only at hSw
            go_simp
            try with_reducible rfl
          simp only [Act.put, List.setIfInBounds_toArray, List.set_cons_zero, List.set_cons_succ]
          refine wpAnyH_take (i := 8) (oi := ⟨some 36, _, _, _, _, _⟩) (v := ?_) rfl (by kernel_rfl) (by kernel_rfl) (by kernel_rfl) (fun _ _ _ h => h) (Or.inl ⟨by rfl, ?_⟩) (by assumption) ?_
          rotate_left 1
          · intro w hSw
            try dsimp only at hSw
            go_simp
            try simp only [s5, s6]
            try with_reducible rfl
          simp only [Act.put, List.setIfInBounds_toArray, List.set_cons_zero, List.set_cons_succ]
          refine wpAnyH_take (i := 9) (oi := ⟨some 37, _, _, _, _, _⟩) (v := ?_) rfl (by kernel_rfl) (by kernel_rfl) (by kernel_rfl) (fun _ _ _ h => h) (Or.inl ⟨by rfl, ?_⟩) (by assumption) ?_
          rotate_left 1
          · intro w hSw
            try dsimp only at hSw
            go_simp
            try simp only [s5, s6]
            try with_reducible rfl
          simp only [Act.put, List.setIfInBounds_toArray, List.set_cons_zero, List.set_cons_succ]
          refine wpAnyH_take (i := 10) (oi := ⟨some 38, _, _, _, _, _⟩) (v := ?_) rfl (by kernel_rfl) (by kernel_rfl) (by kernel_rfl) (fun _ _ _ h => h) (Or.inl ⟨by rfl, ?_⟩) (by assumption) ?_
          rotate_left 1
          · intro w hSw
            try dsimp only at hSw
            go_simp
            try with_reducible rfl
          simp only [Act.put, List.setIfInBounds_toArray, List.set_cons_zero, List.set_cons_succ]
          refine wpAnyH_take (i := 11) (oi := ⟨some 39, _, _, _, _, _⟩) (v := ?_) rfl (by kernel_rfl) (by kernel_rfl) (by kernel_rfl) (fun _ _ _ h => h) (Or.inl ⟨by rfl, ?_⟩) (by assumption) ?_
          rotate_left 1
          · intro w hSw
            try dsimp only at hSw
            go_simp
            try with_reducible rfl
          simp only [Act.put, List.setIfInBounds_toArray, List.set_cons_zero, List.set_cons_succ]
          refine wpAnyH_take (i := 12) (oi := ⟨some 40, _, _, _, _, _⟩) (v := ?_) rfl (by kernel_rfl) (by kernel_rfl) (by kernel_rfl) (fun _ _ _ h => h) (Or.inl ⟨by rfl, ?_⟩) (by assumption) ?_
          rotate_left 1
          · intro w hSw
            try dsimp only at hSw
            go_simp
            try with_reducible rfl
          simp only [Act.put, List.setIfInBounds_toArray, List.set_cons_zero, List.set_cons_succ]
          refine wpAnyH_take (i := 13) (oi := ⟨some 41, _, _, _, _, _⟩) (v := ?_) rfl (by kernel_rfl) (by kernel_rfl) (by kernel_rfl) (fun _ _ _ h => h) (Or.inl ⟨by rfl, ?_⟩) (by assumption) ?_
          rotate_left 1
          · intro w hSw
            try dsimp only at hSw
            go_simp
            try with_reducible rfl
          simp only [Act.put, List.setIfInBounds_toArray, List.set_cons_zero, List.set_cons_succ]
          refine wpAnyH_take (i := 14) (oi := ⟨some 42, _, _, _, _, _⟩) (v := ?_) rfl (by kernel_rfl) (by kernel_rfl) (by kernel_rfl) (fun _ _ _ h => h) (Or.inl ⟨by rfl, ?_⟩) (by assumption) ?_
          rotate_left 1
          · intro w hSw
            try dsimp only at hSw
            go_simp
            try with_reducible rfl
          simp only [Act.put, List.setIfInBounds_toArray, List.set_cons_zero, List.set_cons_succ]
          refine wpAnyH_take (i := 15) (oi := ⟨some 43, _, _, _, _, _⟩) (v := ?_) rfl (by kernel_rfl) (by kernel_rfl) (by kernel_rfl) (fun _ _ _ h => h) (Or.inl ⟨by rfl, ?_⟩) (by assumption) ?_
          rotate_left 1
          · intro w hSw
            try dsimp only at hSw
            go_simp
            try with_reducible rfl
          simp only [Act.put, List.setIfInBounds_toArray, List.set_cons_zero, List.set_cons_succ]
          refine wpAnyH_take (i := 16) (oi := ⟨some 44, _, _, _, _, _⟩) (v := ?_) rfl (by kernel_rfl) (by kernel_rfl) (by kernel_rfl) (fun _ _ _ h => h) (Or.inl ⟨by rfl, ?_⟩) (by assumption) ?_
          rotate_left 1
          · intro w hSw
            try dsimp only at hSw
            go_simp
            try with_reducible rfl
          simp only [Act.put, List.setIfInBounds_toArray, List.set_cons_zero, List.set_cons_succ]
          refine wpAnyH_take (i := 17) (oi := ⟨some 45, _, _, _, _, _⟩) (v := ?_) rfl (by kernel_rfl) (by kernel_rfl) (by kernel_rfl) (fun _ _ _ h => h) (Or.inl ⟨by rfl, ?_⟩) (by assumption) ?_
          rotate_left 1
          · intro w hSw
            try dsimp only at hSw
            go_simp
            try with_reducible rfl
          simp only [Act.put, List.setIfInBounds_toArray, List.set_cons_zero, List.set_cons_succ]
          refine wpAnyH_take (i := 18) (oi := ⟨some 46, _, _, _, _, _⟩) (v := ?_) rfl (by kernel_rfl) (by kernel_rfl) (by kernel_rfl) (fun _ _ _ h => h) (Or.inl ⟨by rfl, ?_⟩) (by assumption) ?_
          rotate_left 1
          · intro w hSw
            try dsimp only at hSw
            go_simp
            try with_reducible rfl
          simp only [Act.put, List.setIfInBounds_toArray, List.set_cons_zero, List.set_cons_succ]
          refine wpAnyH_ready (rs := [19]) (by kernel_rfl) (by simp) ?_
          refine AllReadyH.cons rfl (fun K hK => ?_) AllReadyH.nil
          go_simp
          go_wp2_with (go_at_call 15; refine (refolder_calls y.t y.a t u _).mono ?_; rw [Hold.out]; rintro ee wp ⟨rfl, hb2⟩; have hS1 := held_next hHeld.1 hb2)
          refine hK.out _ _ (KP.out _ hS1) (fun hHeld2 => ?_)
          clear hHeld hK K
          have hHeld := hHeld2
          clear hHeld2
          refine wpAnyH_take (i := 20) (oi := ⟨some 48, _, _, _, _, _⟩) (v := ?_) rfl (by kernel_rfl) (by kernel_rfl) (by kernel_rfl) (fun _ _ _ h => h) (Or.inl ⟨by rfl, ?_⟩) (by assumption) ?_
          rotate_left 1
          · intro w hSw
            try dsimp only at hSw
            go_simp
            try with_reducible rfl
          simp only [Act.put, List.setIfInBounds_toArray, List.set_cons_zero, List.set_cons_succ]
          refine wpAnyH_take (i := 21) (oi := ⟨some 49, _, _, _, _, _⟩) (v := ?_) rfl (by kernel_rfl) (by kernel_rfl) (by kernel_rfl) (fun _ _ _ h => h) (Or.inl ⟨by rfl, ?_⟩) (by assumption) ?_
          rotate_left 1
          · intro w hSw
            try dsimp only at hSw
            go_simp
            try with_reducible rfl
          simp only [Act.put, List.setIfInBounds_toArray, List.set_cons_zero, List.set_cons_succ]
          refine wpAnyH_take (i := 22) (oi := ⟨some 50, _, _, _, _, _⟩) (v := ?_) rfl (by kernel_rfl) (by kernel_rfl) (by kernel_rfl) (fun _ _ _ h => h) (Or.inl ⟨by rfl, ?_⟩) (by assumption) ?_
          rotate_left 1
          · intro w hSw
            try dsimp only at hSw
            go_simp
            try with_reducible rfl
          simp only [Act.put, List.setIfInBounds_toArray, List.set_cons_zero, List.set_cons_succ]
          refine wpAnyH_done (by kernel_rfl) ?_ _
          have HbN := Lib.hid (held_next Hb1.out hHeld.1)
          clear hHeld
          go_wp2_with fail
          go_ret2
          exact ⟨none, 0, by rfl, Line.nil _ _ _ (fun _ => rfl), HbN.out⟩
        | true =>
          obtain rfl : res = (l ++ [⟨t, u, v⟩], 0) := Hres.out.symm.trans (joinQ_yes Hok.out Hv.out Hq.out Hnx.out)
          have KP : Hid (∀ w', Below w1.heap.size w1 w' → (fun w' => Below w1.heap.size w1 w' ∧ (w'.cell? ⟨w.heap.size, 0, none⟩ = some (.int .i64 n) ∧ w'.cell? ⟨w.heap.size, 1, none⟩ = some (.int .i64 q) ∧ w'.cell? ⟨w.heap.size, 2, none⟩ = some (.int .i64 r) ∧ w'.cell? ⟨w.heap.size, 3, none⟩ = some (.int .i64 p) ∧ w'.cell? ⟨w.heap.size, 4, none⟩ = some (.int .i64 kk) ∧ w'.cell? ⟨w.heap.size, 5, none⟩ = some (.int .i64 cc)) ∧ (w'.cell? ⟨w.heap.size + 1, 0, none⟩ = some (.int .i64 t) ∧ w'.cell? ⟨w.heap.size + 1, 1, none⟩ = some (.int .i64 u) ∧ w'.cell? ⟨w.heap.size + 1, 2, none⟩ = some (.int .i64 v)) ∧ (w'.cell? ⟨b, off + j * 3, none⟩ = some (.int .i64 y.t) ∧ w'.cell? ⟨b, off + j * 3 + 1, none⟩ = some (.int .i64 y.a))) w') :=
            fun w' h => ⟨h, config_cells (HW1.out.later h HW1.out.lt), rq_cells (HX1.out.later h HX1.out.lt), ⟨cell_later (held_next Hb1.out h) e0, cell_later (held_next Hb1.out h) e1⟩⟩
          clear e0 e1
          go_wp2_with fail
          refine wp_region_held_drew (S := (fun w' => Below w1.heap.size w1 w' ∧ (w'.cell? ⟨w.heap.size, 0, none⟩ = some (.int .i64 n) ∧ w'.cell? ⟨w.heap.size, 1, none⟩ = some (.int .i64 q) ∧ w'.cell? ⟨w.heap.size, 2, none⟩ = some (.int .i64 r) ∧ w'.cell? ⟨w.heap.size, 3, none⟩ = some (.int .i64 p) ∧ w'.cell? ⟨w.heap.size, 4, none⟩ = some (.int .i64 kk) ∧ w'.cell? ⟨w.heap.size, 5, none⟩ = some (.int .i64 cc)) ∧ (w'.cell? ⟨w.heap.size + 1, 0, none⟩ = some (.int .i64 t) ∧ w'.cell? ⟨w.heap.size + 1, 1, none⟩ = some (.int .i64 u) ∧ w'.cell? ⟨w.heap.size + 1, 2, none⟩ = some (.int .i64 v)) ∧ (w'.cell? ⟨b, off + j * 3, none⟩ = some (.int .i64 y.t) ∧ w'.cell? ⟨b, off + j * 3 + 1, none⟩ = some (.int .i64 y.a)))) (by kernel_rfl) (KP.out _ (Below.refl _ _).drew) (fun hHeld => ?_)
          refine wpAnyH_take (i := 0) (oi := ⟨some 28, _, _, _, _, _⟩) (v := ?_) rfl (by kernel_rfl) (by kernel_rfl) (by kernel_rfl) (fun _ _ _ h => h) (Or.inl ⟨by rfl, ?_⟩) (by assumption) ?_
          rotate_left 1
          · intro w hSw
            try dsimp only at hSw
            go_simp
            try with_reducible rfl
          simp only [Act.put, List.setIfInBounds_toArray, List.set_cons_zero, List.set_cons_succ]
          refine wpAnyH_take (i := 1) (oi := ⟨some 29, _, _, _, _, _⟩) (v := ?_) rfl (by kernel_rfl) (by kernel_rfl) (by kernel_rfl) (fun _ _ _ h => h) (Or.inl ⟨by rfl, ?_⟩) (by assumption) ?_
          rotate_left 1
          · intro w hSw
            try dsimp only at hSw
            go_simp
            try with_reducible rfl
          simp only [Act.put, List.setIfInBounds_toArray, List.set_cons_zero, List.set_cons_succ]
          refine wpAnyH_take (i := 2) (oi := ⟨some 30, _, _, _, _, _⟩) (v := ?_) rfl (by kernel_rfl) (by kernel_rfl) (by kernel_rfl) (fun _ _ _ h => h) (Or.inl ⟨by rfl, ?_⟩) (by assumption) ?_
          rotate_left 1
          · intro w hSw
            try dsimp only at hSw
            go_simp
            try with_reducible rfl
          simp only [Act.put, List.setIfInBounds_toArray, List.set_cons_zero, List.set_cons_succ]
          refine wpAnyH_ready (rs := [3]) (by kernel_rfl) (by simp) ?_
          refine AllReadyH.cons rfl (fun K hK => ?_) AllReadyH.nil
          go_simp
          go_wp2_with (go_at_call 14; refine (refone_calls ⟨n, q, r, p, kk, cc⟩ who ⟨t, u, v⟩ _).mono ?_; rw [Hone.out]; rintro ee wo ⟨rfl, hb2⟩; have hS1 := held_next hHeld.1 hb2)
          refine hK.out _ _ (KP.out _ hS1) (fun hHeld2 => ?_)
          clear hHeld hK K
          have hHeld := hHeld2
          clear hHeld2
          refine wpAnyH_take (i := 4) (oi := ⟨some 32, _, _, _, _, _⟩) (v := ?_) rfl (by kernel_rfl) (by kernel_rfl) (by kernel_rfl) (fun _ _ _ h => h) (Or.inl ⟨by rfl, ?_⟩) (by assumption) ?_
          rotate_left 1
          · intro w hSw
            try dsimp only at hSw
            go_simp
            try with_reducible rfl
          simp only [Act.put, List.setIfInBounds_toArray, List.set_cons_zero, List.set_cons_succ]
          refine wpAnyH_take (i := 5) (oi := ⟨some 33, _, _, _, _, _⟩) (v := ?_) rfl (by kernel_rfl) (by kernel_rfl) (by kernel_rfl) (fun _ _ _ h => h) (Or.inl ⟨by rfl, ?_⟩) (by assumption) ?_
          rotate_left 1
          · intro w hSw
            try dsimp only at hSw
            go_simp
            try with_reducible rfl
          simp only [Act.put, List.setIfInBounds_toArray, List.set_cons_zero, List.set_cons_succ]
          refine wpAnyH_take (i := 6) (oi := ⟨some 34, _, _, _, _, _⟩) (v := ?_) rfl (by kernel_rfl) (by kernel_rfl) (by kernel_rfl) (fun _ _ _ h => h) (Or.inl ⟨by rfl, ?_⟩) (by assumption) ?_
          rotate_left 1
          · intro w hSw
            try dsimp only at hSw
            go_simp
            try with_reducible rfl
          simp only [Act.put, List.setIfInBounds_toArray, List.set_cons_zero, List.set_cons_succ]
          refine wpAnyH_take (i := 7) (oi := ⟨some 35, _, _, _, _, _⟩) (v := ?_) rfl (by kernel_rfl) (by kernel_rfl) (by kernel_rfl) (fun _ _ _ h => h) (Or.inl ⟨by rfl, ?_⟩) (by assumption) ?_
          rotate_left 1
          · intro w hSw
            try dsimp only at hSw
            go_simp
            try with_reducible rfl
          simp only [Act.put, List.setIfInBounds_toArray, List.set_cons_zero, List.set_cons_succ]
          refine wpAnyH_take (i := 8) (oi := ⟨some 36, _, _, _, _, _⟩) (v := ?_) rfl (by kernel_rfl) (by kernel_rfl) (by kernel_rfl) (fun _ _ _ h => h) (Or.inl ⟨by rfl, ?_⟩) (by assumption) ?_
          rotate_left 1
          · intro w hSw
            try dsimp only at hSw
            go_simp
            try simp only [s5, s6]
            try with_reducible rfl
          simp only [Act.put, List.setIfInBounds_toArray, List.set_cons_zero, List.set_cons_succ]
          refine wpAnyH_take (i := 9) (oi := ⟨some 37, _, _, _, _, _⟩) (v := ?_) rfl (by kernel_rfl) (by kernel_rfl) (by kernel_rfl) (fun _ _ _ h => h) (Or.inl ⟨by rfl, ?_⟩) (by assumption) ?_
          rotate_left 1
          · intro w hSw
            try dsimp only at hSw
            go_simp
            try simp only [s5, s6]
            try with_reducible rfl
          simp only [Act.put, List.setIfInBounds_toArray, List.set_cons_zero, List.set_cons_succ]
          refine wpAnyH_take (i := 10) (oi := ⟨some 38, _, _, _, _, _⟩) (v := ?_) rfl (by kernel_rfl) (by kernel_rfl) (by kernel_rfl) (fun _ _ _ h => h) (Or.inl ⟨by rfl, ?_⟩) (by assumption) ?_
          rotate_left 1
          · intro w hSw
            try dsimp only at hSw
            go_simp
            try with_reducible rfl
          simp only [Act.put, List.setIfInBounds_toArray, List.set_cons_zero, List.set_cons_succ]
          refine wpAnyH_take (i := 11) (oi := ⟨some 39, _, _, _, _, _⟩) (v := ?_) rfl (by kernel_rfl) (by kernel_rfl) (by kernel_rfl) (fun _ _ _ h => h) (Or.inl ⟨by rfl, ?_⟩) (by assumption) ?_
          rotate_left 1
          · intro w hSw
            try dsimp only at hSw
            go_simp
            try with_reducible rfl
          simp only [Act.put, List.setIfInBounds_toArray, List.set_cons_zero, List.set_cons_succ]
          refine wpAnyH_take (i := 12) (oi := ⟨some 40, _, _, _, _, _⟩) (v := ?_) rfl (by kernel_rfl) (by kernel_rfl) (by kernel_rfl) (fun _ _ _ h => h) (Or.inl ⟨by rfl, ?_⟩) (by assumption) ?_
          rotate_left 1
          · intro w hSw
            try dsimp only at hSw
            go_simp
            try with_reducible rfl
          simp only [Act.put, List.setIfInBounds_toArray, List.set_cons_zero, List.set_cons_succ]
          refine wpAnyH_take (i := 13) (oi := ⟨some 41, _, _, _, _, _⟩) (v := ?_) rfl (by kernel_rfl) (by kernel_rfl) (by kernel_rfl) (fun _ _ _ h => h) (Or.inl ⟨by rfl, ?_⟩) (by assumption) ?_
          rotate_left 1
          · intro w hSw
            try dsimp only at hSw
            go_simp
            try with_reducible rfl
          simp only [Act.put, List.setIfInBounds_toArray, List.set_cons_zero, List.set_cons_succ]
          refine wpAnyH_take (i := 14) (oi := ⟨some 42, _, _, _, _, _⟩) (v := ?_) rfl (by kernel_rfl) (by kernel_rfl) (by kernel_rfl) (fun _ _ _ h => h) (Or.inl ⟨by rfl, ?_⟩) (by assumption) ?_
          rotate_left 1
          · intro w hSw
            try dsimp only at hSw
            go_simp
            try with_reducible rfl
          simp only [Act.put, List.setIfInBounds_toArray, List.set_cons_zero, List.set_cons_succ]
          refine wpAnyH_take (i := 15) (oi := ⟨some 43, _, _, _, _, _⟩) (v := ?_) rfl (by kernel_rfl) (by kernel_rfl) (by kernel_rfl) (fun _ _ _ h => h) (Or.inl ⟨by rfl, ?_⟩) (by assumption) ?_
          rotate_left 1
          · intro w hSw
            try dsimp only at hSw
            go_simp
            try with_reducible rfl
          simp only [Act.put, List.setIfInBounds_toArray, List.set_cons_zero, List.set_cons_succ]
          refine wpAnyH_take (i := 16) (oi := ⟨some 44, _, _, _, _, _⟩) (v := ?_) rfl (by kernel_rfl) (by kernel_rfl) (by kernel_rfl) (fun _ _ _ h => h) (Or.inl ⟨by rfl, ?_⟩) (by assumption) ?_
          rotate_left 1
          · intro w hSw
            try dsimp only at hSw
            go_simp
            try with_reducible rfl
          simp only [Act.put, List.setIfInBounds_toArray, List.set_cons_zero, List.set_cons_succ]
          refine wpAnyH_take (i := 17) (oi := ⟨some 45, _, _, _, _, _⟩) (v := ?_) rfl (by kernel_rfl) (by kernel_rfl) (by kernel_rfl) (fun _ _ _ h => h) (Or.inl ⟨by rfl, ?_⟩) (by assumption) ?_
          rotate_left 1
          · intro w hSw
            try dsimp only at hSw
            go_simp
            try with_reducible rfl
          simp only [Act.put, List.setIfInBounds_toArray, List.set_cons_zero, List.set_cons_succ]
          refine wpAnyH_take (i := 18) (oi := ⟨some 46, _, _, _, _, _⟩) (v := ?_) rfl (by kernel_rfl) (by kernel_rfl) (by kernel_rfl) (fun _ _ _ h => h) (Or.inl ⟨by rfl, ?_⟩) (by assumption) ?_
          rotate_left 1
          · intro w hSw
            try dsimp only at hSw
            go_simp
            try with_reducible rfl
          simp only [Act.put, List.setIfInBounds_toArray, List.set_cons_zero, List.set_cons_succ]
          refine wpAnyH_ready (rs := [19]) (by kernel_rfl) (by simp) ?_
          refine AllReadyH.cons rfl (fun K hK => ?_) AllReadyH.nil
          go_simp
          go_wp2_with (go_at_call 15; refine (refolder_calls y.t y.a t u _).mono ?_; rw [Hold.out]; rintro ee wp ⟨rfl, hb2⟩; have hS1 := held_next hHeld.1 hb2)
          refine hK.out _ _ (KP.out _ hS1) (fun hHeld2 => ?_)
          clear hHeld hK K
          have hHeld := hHeld2
          clear hHeld2
          refine wpAnyH_take (i := 20) (oi := ⟨some 48, _, _, _, _, _⟩) (v := ?_) rfl (by kernel_rfl) (by kernel_rfl) (by kernel_rfl) (fun _ _ _ h => h) (Or.inl ⟨by rfl, ?_⟩) (by assumption) ?_
          rotate_left 1
          · intro w hSw
            try dsimp only at hSw
            go_simp
            try with_reducible rfl
          simp only [Act.put, List.setIfInBounds_toArray, List.set_cons_zero, List.set_cons_succ]
          refine wpAnyH_take (i := 21) (oi := ⟨some 49, _, _, _, _, _⟩) (v := ?_) rfl (by kernel_rfl) (by kernel_rfl) (by kernel_rfl) (fun _ _ _ h => h) (Or.inl ⟨by rfl, ?_⟩) (by assumption) ?_
          rotate_left 1
          · intro w hSw
            try dsimp only at hSw
            go_simp
            try with_reducible rfl
          simp only [Act.put, List.setIfInBounds_toArray, List.set_cons_zero, List.set_cons_succ]
          refine wpAnyH_take (i := 22) (oi := ⟨some 50, _, _, _, _, _⟩) (v := ?_) rfl (by kernel_rfl) (by kernel_rfl) (by kernel_rfl) (fun _ _ _ h => h) (Or.inl ⟨by rfl, ?_⟩) (by assumption) ?_
          rotate_left 1
          · intro w hSw
            try dsimp only at hSw
            go_simp
            try with_reducible rfl
          simp only [Act.put, List.setIfInBounds_toArray, List.set_cons_zero, List.set_cons_succ]
          refine wpAnyH_done (by kernel_rfl) ?_ _
          have HbN := Lib.hid (held_next Hb1.out hHeld.1)
          have HXN := Lib.hid (HX1.out.later hHeld.1 HX1.out.lt)
          have HBN := Lib.hid (HB.out.later (held_next Hb1.out hHeld.1))
          clear hHeld KP HW1 HX1
          clear f0 f1 f2 d0 d1 d2 d3 d4 d5
          go_wp2_with fail
          skip
          refine wp_region_each_at ?hm ?hb (fun a0 d a' w' => ∃ (e0 e1 e2 e3 e4 e5 e6 e7 : Value), a' = putAll a0 [(51, e0), (52, e1), (53, e2), (54, e3), (55, e4), (56, e5), (8, e6), (9, e7)] ∧ Below wp.heap.size wp w' ∧ (d 0 = true → (d 2 = false → OwnQ w' wp.heap.size e0 [])) ∧ (d 1 = true → e1 = (.slice (some ⟨b, off, none⟩) m cp)) ∧ (d 2 = true → (d 5 = false → OwnQ w' wp.heap.size e2 l)) ∧ (d 3 = true → e3 = (rqV ⟨t, u, v⟩)) ∧ (d 4 = true → (d 5 = false → OneQ w' (d 0) (d 2) e0 e2 e4 ⟨t, u, v⟩)) ∧ (d 5 = true → d 2 = true ∧ OwnQ w' (wp.heap.size) e5 (l ++ [⟨t, u, v⟩])) ∧ (d 6 = true → d 5 = true ∧ OwnQ w' (wp.heap.size) e6 (l ++ [⟨t, u, v⟩])) ∧ (d 7 = true → e7 = .int .i64 0)) ?h0 ?step ?ends
          case hm => kernel_rfl
          case hb => kernel_rfl
          case h0 =>
            refine ⟨undef, undef, undef, undef, undef, undef, .slice none 0 0, .int .i64 0, ?_, (Below.refl _ _).drew, fun h => absurd h (by decide), fun h => absurd h (by decide), fun h => absurd h (by decide), fun h => absurd h (by decide), fun h => absurd h (by decide), fun h => absurd h (by decide), fun h => absurd h (by decide), fun h => absurd h (by decide)⟩
            simp only [putAll, Act.put, List.setIfInBounds_toArray, List.set_cons_zero, List.set_cons_succ]
          case step =>
            intro i d a' w' hi hJ hd hk
            obtain ⟨e0, e1, e2, e3, e4, e5, e6, e7, rfl, hB, c0, c1, c2, c3, c4, c5, c6, c7⟩ := hJ
            match i, hi, hd, hk with
            | 0, _, hd, hk =>
              have hb := below_box w' (.cells #[] 28)
              have hq0 : OwnQ (w'.alloc (.cells #[] 28)) (wp.heap.size) (.slice (some ⟨w'.heap.size, 0, none⟩) 0 0) [] := own_whole (cs := #[]) (Whole.made w' _ _) hB.size rfl (by decide)
              apply wpOp_at
              case ho => rfl
              intro K hK
              simp only [putAll, Act.put, List.setIfInBounds_toArray, List.set_cons_zero, List.set_cons_succ]
              go_simp
              refine hK _ _ ⟨.slice (some ⟨w'.heap.size, 0, none⟩) 0 0, e1, e2, e3, e4, e5, e6, e7, ?_, hB.trans (hb.mono hB.size), fun _ => fun _ => hq0, c1, fun h h' => ownQ_later (c2 h h') hb, c3, fun h h' => (c4 h h').made0 hb, fun h => ⟨(c5 h).1, ownQ_later (c5 h).2 hb⟩, fun h => ⟨(c6 h).1, ownQ_later (c6 h).2 hb⟩, c7⟩
              simp only [putAll, Act.put, List.setIfInBounds_toArray, List.set_cons_zero, List.set_cons_succ]
            | 1, _, hd, hk =>
              apply wpOp_at
              case ho => rfl
              intro K hK
              simp only [putAll, Act.put, List.setIfInBounds_toArray, List.set_cons_zero, List.set_cons_succ]
              go_simp
              refine hK _ _ ⟨e0, (.slice (some ⟨b, off, none⟩) m cp), e2, e3, e4, e5, e6, e7, ?_, hB, c0, fun _ => rfl, c2, c3, c4, c5, c6, c7⟩
              simp only [putAll, Act.put, List.setIfInBounds_toArray, List.set_cons_zero, List.set_cons_succ]
            | 2, _, hd, hk =>
              have h0 : d 0 = true := hk 0 (by decide +kernel)
              have h1 : d 1 = true := hk 1 (by decide +kernel)
              obtain rfl := c1 h1
              obtain ⟨v9, w9, hrun9, q9, b9, g9⟩ := run_append_line (c0 h0 hd) (HBN.out.later hB) Hm.out (by have := Hlen.out; simp only [List.length_nil]; omega) hB.size
              rw [List.nil_append] at q9
              obtain ⟨hf9, hv9, hw9⟩ := fine_of hrun9
              clear hrun9
              apply wpOp_at
              case ho => rfl
              intro K hK
              simp only [putAll, Act.put, List.setIfInBounds_toArray, List.set_cons_zero, List.set_cons_succ]
              go_simp
              refine hK _ _ ⟨e0, (.slice (some ⟨b, off, none⟩) m cp), v9, e3, e4, e5, e6, e7, ?_, hB.trans b9, fun _ h => Bool.noConfusion (show true = false from h), c1, fun _ => fun _ => q9, c3, fun h h' => OneQ.grown (by rw [← hd]; exact c4 h h') h0 g9, fun h => absurd ((c5 h).1.symm.trans hd) (by decide), fun h => absurd ((c5 (c6 h).1).1.symm.trans hd) (by decide), c7⟩
              simp only [putAll, Act.put, List.setIfInBounds_toArray, List.set_cons_zero, List.set_cons_succ]
            | 3, _, hd, hk =>
              obtain ⟨z0, z1, z2⟩ := rq_cells (HXN.out.later hB HXN.out.lt)
              apply wpOp_at
              case ho => rfl
              intro K hK
              simp only [putAll, Act.put, List.setIfInBounds_toArray, List.set_cons_zero, List.set_cons_succ]
              go_simp
              refine hK _ _ ⟨e0, e1, e2, (rqV ⟨t, u, v⟩), e4, e5, e6, e7, ?_, hB, c0, c1, c2, fun _ => rfl, c4, c5, c6, c7⟩
              simp only [putAll, Act.put, List.setIfInBounds_toArray, List.set_cons_zero, List.set_cons_succ]
            | 4, _, hd, hk =>
              have h3 : d 3 = true := hk 3 (by decide +kernel)
              obtain rfl := c3 h3
              have hb := below_box w' (.cells (rqCells ⟨t, u, v⟩) 28)
              apply wpOp_at
              case ho => rfl
              intro K hK
              simp only [putAll, Act.put, List.setIfInBounds_toArray, List.set_cons_zero, List.set_cons_succ]
              go_simp
              refine hK _ _ ⟨e0, e1, e2, (rqV ⟨t, u, v⟩), .slice (some ⟨w'.heap.size, 0, none⟩) 1 1, e5, e6, e7, ?_, hB.trans (hb.mono hB.size), fun h h' => ownQ_later (c0 h h') hb, c1, fun h h' => ownQ_later (c2 h h') hb, c3, fun _ => fun h5 => OneQ.made (Whole.made w' _ _) (fun h h' => own_past (c0 h h') (Nat.le_refl _)) (fun h => own_past (c2 h h5) (Nat.le_refl _)), fun h => ⟨(c5 h).1, ownQ_later (c5 h).2 hb⟩, fun h => ⟨(c6 h).1, ownQ_later (c6 h).2 hb⟩, c7⟩
              simp only [putAll, Act.put, List.setIfInBounds_toArray, List.set_cons_zero, List.set_cons_succ]
            | 5, _, hd, hk =>
              have h2 : d 2 = true := hk 2 (by decide +kernel)
              have h4 : d 4 = true := hk 4 (by decide +kernel)
              obtain ⟨g4, rfl, hx4⟩ := (c4 h4 hd).line
              obtain ⟨v9, w9, hrun9, q9, b9, g9⟩ := run_append_line (c2 h2 hd) hx4 rfl (by have := Hlen.out; simp only [List.length_singleton]; omega) hB.size
              obtain ⟨hf9, hv9, hw9⟩ := fine_of hrun9
              clear hrun9
              apply wpOp_at
              case ho => rfl
              intro K hK
              simp only [putAll, Act.put, List.setIfInBounds_toArray, List.set_cons_zero, List.set_cons_succ]
              go_simp
              refine hK _ _ ⟨e0, e1, e2, e3, .slice (some ⟨g4, 0, none⟩) 1 1, v9, e6, e7, ?_, hB.trans b9, fun _ h' => absurd (h2.symm.trans h') (by decide), c1, fun _ h => Bool.noConfusion (show true = false from h), c3, fun _ h => Bool.noConfusion (show true = false from h), fun _ => ⟨h2, q9⟩, fun h => absurd ((c6 h).1.symm.trans hd) (by decide), c7⟩
              simp only [putAll, Act.put, List.setIfInBounds_toArray, List.set_cons_zero, List.set_cons_succ]
            | 6, _, hd, hk =>
              have h0 : d 0 = true := hk 0 (by decide +kernel)
              have h1 : d 1 = true := hk 1 (by decide +kernel)
              have h2 : d 2 = true := hk 2 (by decide +kernel)
              have h3 : d 3 = true := hk 3 (by decide +kernel)
              have h4 : d 4 = true := hk 4 (by decide +kernel)
              have h5 : d 5 = true := hk 5 (by decide +kernel)
              obtain rfl := c1 h1
              obtain rfl := c3 h3
              apply wpOp_at
              case ho => rfl
              intro K hK
              simp only [putAll, Act.put, List.setIfInBounds_toArray, List.set_cons_zero, List.set_cons_succ]
              go_simp
              refine hK _ _ ⟨e0, (.slice (some ⟨b, off, none⟩) m cp), e2, (rqV ⟨t, u, v⟩), e4, e5, e5, e7, ?_, hB, c0, c1, c2, c3, c4, c5, fun _ => ⟨h5, (c5 h5).2⟩, c7⟩
              simp only [putAll, Act.put, List.setIfInBounds_toArray, List.set_cons_zero, List.set_cons_succ]
            | 7, _, hd, hk =>
              have h0 : d 0 = true := hk 0 (by decide +kernel)
              have h1 : d 1 = true := hk 1 (by decide +kernel)
              have h2 : d 2 = true := hk 2 (by decide +kernel)
              have h3 : d 3 = true := hk 3 (by decide +kernel)
              have h4 : d 4 = true := hk 4 (by decide +kernel)
              have h5 : d 5 = true := hk 5 (by decide +kernel)
              have h6 : d 6 = true := hk 6 (by decide +kernel)
              obtain rfl := c1 h1
              obtain rfl := c3 h3
              apply wpOp_at
              case ho => rfl
              intro K hK
              simp only [putAll, Act.put, List.setIfInBounds_toArray, List.set_cons_zero, List.set_cons_succ]
              go_simp
              refine hK _ _ ⟨e0, (.slice (some ⟨b, off, none⟩) m cp), e2, (rqV ⟨t, u, v⟩), e4, e5, e6, .int .i64 0, ?_, hB, c0, c1, c2, c3, c4, c5, c6, fun _ => rfl⟩
              simp only [putAll, Act.put, List.setIfInBounds_toArray, List.set_cons_zero, List.set_cons_succ]
            | k + 8, hi, _, _ => exact absurd hi (by simp)
          case ends =>
            intro d a' w' hJ hall
            obtain ⟨e0, e1, e2, e3, e4, e5, e6, e7, rfl, hB, c0, c1, c2, c3, c4, c5, c6, c7⟩ := hJ
            obtain ⟨A, C, rfl, hl⟩ := (c6 (hall 6 (by decide +kernel))).2.line (by have := Hlen.out; rw [List.length_append, List.length_singleton]; omega)
            obtain rfl := c7 (hall 7 (by decide +kernel))
            have hbF := held_next HbN.out hB
            clear c0 c1 c2 c3 c4 c5 c6 c7 hall hB
            have Hl := Lib.hid hl
            have HbF := Lib.hid hbF
            clear hl hbF
            simp only [putAll, Act.put, List.setIfInBounds_toArray, List.set_cons_zero, List.set_cons_succ]
            go_wp2_with fail
            go_ret2
            exact ⟨A, C, by rfl, Hl.out, HbF.out⟩
end Go.Proofs.Ytefekkfocogghaa
