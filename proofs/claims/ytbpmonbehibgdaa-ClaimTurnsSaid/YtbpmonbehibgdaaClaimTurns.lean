/- Law ClaimTurns, walked: of any two replicas that know the same claims at most one is not held by the other's; one whose claim is the oldest calls all whose first request is not older. The law itself is stated in ClaimCards. -/
import Derived.Test.YtbpmonbehibgdaaClaimAwake
import Derived.Test.YtbpmonbehibgdaaMg15
import Derived.Deep.RegionHeld3
namespace Go.Proofs.Ytbpmonbehibgdaa
open Go.RowKit

set_option maxRecDepth 100000 in
set_option maxHeartbeats 8000000 in
theorem claimturns_law (c : Cf) (who : Int) (a0 : Option Addr) (m cp : Nat) (l : List Nt) (hm : m = l.length) (w : World) (hB : Notes w (.slice a0 m cp) l) :
    Calls Try.prog 5 #[cfV c, .int .i64 who, .slice a0 m cp] w (Says w true) := by
  have hbig : m ≤ 9223372036854775807 := by rw [hm]; exact hB.big
  have HW := Lib.hid (Whole.made w 23 (cfCells c))
  have Hb0 := Lib.hid (below_box w (.cells (cfCells c) 23))
  have HB := Lib.hid hB; clear hB
  have Hm := Lib.hid hm; clear hm
  obtain ⟨n, q, r, p, kk, cc⟩ := c
  go_enter Try.func5, Try.ntmps5
  go_wp2_with fail
  refine (awake14 _).mono ?_
  rintro e w1 ⟨rfl, hb⟩
  have Hb1 := Lib.hid (held_next Hb0.out hb)
  have HW1 := Lib.hid (HW.out.later hb HW.out.lt)
  clear hb
  by_cases h40 : 40 < m
  · go_wp2_with fail
    go_ret
    exact ⟨by rfl, Hb1.out⟩
  obtain ⟨d0, d1, d2, d3, d4, d5⟩ := config_cells HW1.out
  simp only at d0 d1 d2 d3 d4 d5
  obtain ⟨ok, Hok⟩ : ∃ z, Hid (notesB ⟨n, q, r, p, kk, cc⟩ who l = z) := ⟨_, rfl⟩
  go_wp2_with fail
  refine (cMay_calls ⟨n, q, r, p, kk, cc⟩ who a0 m cp l Hm.out (by omega) _ (HB.out.later Hb1.out)).mono ?_
  rintro e w1' ⟨rfl, hb⟩
  rw [Hok.out]
  have Hb2 := Lib.hid (held_next Hb1.out hb)
  have HW2 := Lib.hid (HW1.out.later hb HW1.out.lt)
  clear hb d0 d1 d2 d3 d4 d5
  cases ok with
  | false =>
    go_wp2_with fail
    go_ret
    exact ⟨by rfl, Hb2.out⟩
  | true =>
  have hokk : notesOk ⟨n, q, r, p, kk, cc⟩ who l := of_decide_eq_true Hok.out
  have HOK := Lib.hid hokk
  clear hokk
  have hm40 : m ≤ 40 := by omega
  clear h40
  obtain ⟨d0, d1, d2, d3, d4, d5⟩ := config_cells HW2.out
  simp only at d0 d1 d2 d3 d4 d5
  obtain ⟨R, HR⟩ : ∃ z, Hid (oldestN ⟨n, q, r, p, kk, cc⟩ who l = z) := ⟨_, rfl⟩
  obtain ⟨⟨rt, ra, rm⟩, ok2⟩ := R
  have hold := cOldest_calls ⟨n, q, r, p, kk, cc⟩ who a0 m cp l Hm.out (by omega) _ (HB.out.later Hb2.out)
  rw [HR.out] at hold
  have Hold := Lib.hid hold; clear hold
  go_wp2_with fail
  refine Hold.out.mono ?_
  rintro e w2 ⟨rfl, hb⟩
  have hb3 := held_next hb (below_box w2 (.cells (rqCells ⟨rt, ra, rm⟩) 29))
  have HQ3 := Lib.hid (Whole.made w2 29 (rqCells ⟨rt, ra, rm⟩))
  have HW3 := Lib.hid (HW2.out.later hb3 HW2.out.lt)
  have Hb3 := Lib.hid (held_next Hb2.out hb3)
  clear hb hb3 d0 d1 d2 d3 d4 d5
  obtain ⟨d0, d1, d2, d3, d4, d5⟩ := config_cells HW3.out
  simp only at d0 d1 d2 d3 d4 d5
  cases ok2 with
  | false =>
    have hno : (oldestN ⟨n, q, r, p, kk, cc⟩ who l).2 = false := by rw [HR.out]
    have hc := cCalls_calls ⟨n, q, r, p, kk, cc⟩ who a0 m cp l ⟨0, 0, 0⟩ Hm.out (by omega) _ (HB.out.later Hb3.out)
    rw [calls_none hno] at hc
    have hh := held_none HOK.out 1125899906842624 99 hno
    have Hc := Lib.hid hc; have Hh := Lib.hid hh
    clear hc hh hno
    go_wp2_with fail
    refine Hc.out.mono ?_
    rintro e w4 ⟨rfl, hb⟩
    have Hb4 := Lib.hid (held_next Hb3.out hb)
    have HW4 := Lib.hid (HW3.out.later hb HW3.out.lt)
    clear hb d0 d1 d2 d3 d4 d5
    obtain ⟨d0, d1, d2, d3, d4, d5⟩ := config_cells HW4.out
    simp only at d0 d1 d2 d3 d4 d5
    go_wp2_with fail
    refine (cHeld_calls ⟨n, q, r, p, kk, cc⟩ who a0 m cp l 1125899906842624 99 Hm.out (by omega) _ (HB.out.later Hb4.out)).mono ?_
    rw [Hh.out]
    rintro e w5 ⟨rfl, hb⟩
    have Hb5 := Lib.hid (held_next Hb4.out hb)
    clear hb
    go_wp2_with fail
    go_ret
    exact ⟨by rfl, Hb5.out⟩
  | true =>
  go_wp2_with fail
  clear d0 d1 d2 d3 d4 d5
  go_loopw [11] (fun s11 wr => ∃ k : Nat, k ≤ m ∧ s11 = .int .i64 k ∧ Hid (Below w.heap.size w wr) ∧ Hid (Whole wr w.heap.size 23 (cfCells ⟨n, q, r, p, kk, cc⟩)) ∧ Hid (Whole wr w2.heap.size 29 (rqCells ⟨rt, ra, rm⟩))) (fun s11 _ => m - (intOf s11).toNat)
  case atStart => exact ⟨0, Nat.zero_le _, rfl, Hb3.out, HW3.out, HQ3.out⟩
  case round =>
    obtain ⟨k, hk, rfl, Hbr, HWr, HQr⟩ := hrel
    by_cases hlt : k < m
    · obtain ⟨b, off, rfl, hN⟩ := (HB.out.later Hbr.out).at (i := k) (by have := Hm.out; omega)
      obtain ⟨y, Hy⟩ : ∃ z, Hid (ntAt l k = z) := ⟨_, rfl⟩
      rw [Hy.out] at hN
      have HN := Lib.hid hN; clear hN
      obtain ⟨v, Hv⟩ : ∃ z, Hid (onB ⟨n, q, r, p, kk, cc⟩ y = z) := ⟨_, rfl⟩
      have k0 : (0 : Int) ≤ (k : Int) := by omega
      have k1 : (k : Int) < (m : Int) := by omega
      have KP : Hid (∀ w', Below wr.heap.size wr w' → (fun w' => Below wr.heap.size wr w' ∧ (w'.cell? ⟨w.heap.size, 0, none⟩ = some (.int .i64 n) ∧ w'.cell? ⟨w.heap.size, 1, none⟩ = some (.int .i64 q) ∧ w'.cell? ⟨w.heap.size, 2, none⟩ = some (.int .i64 r) ∧ w'.cell? ⟨w.heap.size, 3, none⟩ = some (.int .i64 p) ∧ w'.cell? ⟨w.heap.size, 4, none⟩ = some (.int .i64 kk) ∧ w'.cell? ⟨w.heap.size, 5, none⟩ = some (.int .i64 cc)) ∧ (w'.cell? ⟨b, off + k * 7, none⟩ = some (.int .i64 y.clk) ∧ w'.cell? ⟨b, off + k * 7 + 1, none⟩ = some (.int .i64 y.t) ∧ w'.cell? ⟨b, off + k * 7 + 2, none⟩ = some (.int .i64 y.a) ∧ w'.cell? ⟨b, off + k * 7 + 3, none⟩ = some (.int .i64 y.m) ∧ w'.cell? ⟨b, off + k * 7 + 4, none⟩ = some (.int .i64 y.asks) ∧ w'.cell? ⟨b, off + k * 7 + 5, none⟩ = some (.int .i64 y.try_) ∧ w'.cell? ⟨b, off + k * 7 + 6, none⟩ = some (.int .i64 y.ph)) ∧ (w'.cell? ⟨w2.heap.size, 0, none⟩ = some (.int .i64 rt) ∧ w'.cell? ⟨w2.heap.size, 1, none⟩ = some (.int .i64 ra) ∧ w'.cell? ⟨w2.heap.size, 2, none⟩ = some (.int .i64 rm))) w') :=
        fun w' h => ⟨h, config_cells (HWr.out.later h HWr.out.lt), HN.out.later h, rq_cells (HQr.out.later h HQr.out.lt)⟩
      go_wp2_with fail
      refine wp_region_held_drew (S := (fun w' => Below wr.heap.size wr w' ∧ (w'.cell? ⟨w.heap.size, 0, none⟩ = some (.int .i64 n) ∧ w'.cell? ⟨w.heap.size, 1, none⟩ = some (.int .i64 q) ∧ w'.cell? ⟨w.heap.size, 2, none⟩ = some (.int .i64 r) ∧ w'.cell? ⟨w.heap.size, 3, none⟩ = some (.int .i64 p) ∧ w'.cell? ⟨w.heap.size, 4, none⟩ = some (.int .i64 kk) ∧ w'.cell? ⟨w.heap.size, 5, none⟩ = some (.int .i64 cc)) ∧ (w'.cell? ⟨b, off + k * 7, none⟩ = some (.int .i64 y.clk) ∧ w'.cell? ⟨b, off + k * 7 + 1, none⟩ = some (.int .i64 y.t) ∧ w'.cell? ⟨b, off + k * 7 + 2, none⟩ = some (.int .i64 y.a) ∧ w'.cell? ⟨b, off + k * 7 + 3, none⟩ = some (.int .i64 y.m) ∧ w'.cell? ⟨b, off + k * 7 + 4, none⟩ = some (.int .i64 y.asks) ∧ w'.cell? ⟨b, off + k * 7 + 5, none⟩ = some (.int .i64 y.try_) ∧ w'.cell? ⟨b, off + k * 7 + 6, none⟩ = some (.int .i64 y.ph)) ∧ (w'.cell? ⟨w2.heap.size, 0, none⟩ = some (.int .i64 rt) ∧ w'.cell? ⟨w2.heap.size, 1, none⟩ = some (.int .i64 ra) ∧ w'.cell? ⟨w2.heap.size, 2, none⟩ = some (.int .i64 rm)))) (by kernel_rfl) (KP.out _ (Below.refl _ _).drew) (fun hHeld => ?_)
      refine wpAnyH_take (i := 0) (oi := ⟨some 60, _, _, _, _, _⟩) (v := ?_) rfl (by kernel_rfl) (by kernel_rfl) (by kernel_rfl) (fun _ _ _ h => h) (Or.inl ⟨by rfl, ?_⟩) (by assumption) ?_
      rotate_left 1
      · intro w hSw
        try dsimp only at hSw
        go_simp
        try with_reducible rfl
      simp only [Act.put, List.setIfInBounds_toArray, List.set_cons_zero, List.set_cons_succ]
      refine wpAnyH_take (i := 1) (oi := ⟨some 61, _, _, _, _, _⟩) (v := ?_) rfl (by kernel_rfl) (by kernel_rfl) (by kernel_rfl) (fun _ _ _ h => h) (Or.inl ⟨by rfl, ?_⟩) (by assumption) ?_
      rotate_left 1
      · intro w hSw
        try dsimp only at hSw
        go_simp
        try with_reducible rfl
      simp only [Act.put, List.setIfInBounds_toArray, List.set_cons_zero, List.set_cons_succ]
      refine wpAnyH_take (i := 2) (oi := ⟨some 62, _, _, _, _, _⟩) (v := ?_) rfl (by kernel_rfl) (by kernel_rfl) (by kernel_rfl) (fun _ _ _ h => h) (Or.inl ⟨by rfl, ?_⟩) (by assumption) ?_
      rotate_left 1
      · intro w hSw
        try dsimp only at hSw
        go_simp
        try with_reducible rfl
      simp only [Act.put, List.setIfInBounds_toArray, List.set_cons_zero, List.set_cons_succ]
      refine wpAnyH_take (i := 3) (oi := ⟨some 63, _, _, _, _, _⟩) (v := ?_) rfl (by kernel_rfl) (by kernel_rfl) (by kernel_rfl) (fun _ _ _ h => h) (Or.inl ⟨by rfl, ?_⟩) (by assumption) ?_
      rotate_left 1
      · intro w hSw
        try dsimp only at hSw
        go_simp
        try with_reducible rfl
      simp only [Act.put, List.setIfInBounds_toArray, List.set_cons_zero, List.set_cons_succ]
      refine wpAnyH_take (i := 4) (oi := ⟨some 64, _, _, _, _, _⟩) (v := ?_) rfl (by kernel_rfl) (by kernel_rfl) (by kernel_rfl) (fun _ _ _ h => h) (Or.inl ⟨by rfl, ?_⟩) (by assumption) ?_
      rotate_left 1
      · intro w hSw
        try dsimp only at hSw
        go_simp
        try with_reducible rfl
      simp only [Act.put, List.setIfInBounds_toArray, List.set_cons_zero, List.set_cons_succ]
      refine wpAnyH_ready (rs := [5]) (by kernel_rfl) (by simp) ?_
      refine AllReadyH.cons rfl (fun K hK => ?_) AllReadyH.nil
      go_simp
      go_wp2_with (go_at_call 19; refine (cOn_calls ⟨n, q, r, p, kk, cc⟩ y _).mono ?_; rw [Hv.out]; rintro ee wo ⟨rfl, hb2⟩; have hS1 := held_next hHeld.1 hb2)
      refine hK.out _ _ (KP.out _ hS1) (fun hHeld2 => ?_)
      clear hHeld hK K
      have hHeld := hHeld2
      clear hHeld2
      refine wpAnyH_take (i := 6) (oi := ⟨some 66, _, _, _, _, _⟩) (v := ?_) rfl (by kernel_rfl) (by kernel_rfl) (by kernel_rfl) (fun _ _ _ h => h) (Or.inl ⟨by rfl, ?_⟩) (by assumption) ?_
      rotate_left 1
      · intro w hSw
        try dsimp only at hSw
        go_simp
        try with_reducible rfl
      simp only [Act.put, List.setIfInBounds_toArray, List.set_cons_zero, List.set_cons_succ]
      refine wpAnyH_done (by kernel_rfl) ?_ _
      have HWn := Lib.hid (HWr.out.later hHeld.1 HWr.out.lt)
      have HQn := Lib.hid (HQr.out.later hHeld.1 HQr.out.lt)
      have HNn := Lib.hid (HN.out.later hHeld.1)
      have Hbn := Lib.hid (held_next Hbr.out hHeld.1)
      clear hHeld KP HWr HQr HN Hbr
      have HWr := HWn; have HQr := HQn; have HN := HNn; have Hbr := Hbn
      clear HWn HQn HNn Hbn
      cases v with
      | false =>
        go_wp2_with fail
        go_roundw
        case rel => exact ⟨k + 1, by omega, by go_num, Hbr.out, HWr.out, HQr.out⟩
        case measure => simp [intOf]; omega
      | true =>
        obtain ⟨ht1, ht2⟩ := turn_is HOK.out HR.out (i := k) (by have := Hm.out; omega) (by rw [Hy.out]; exact Hv.out)
        rw [Hy.out] at ht1 ht2
        obtain ⟨o, Ho⟩ : ∃ z, Hid (olderB rt ra y.t y.a = z) := ⟨_, rfl⟩
        have ht1' : o = !decide (headOf y = ⟨rt, ra, rm⟩) := Ho.out.symm.trans ht1
        have Hh : Hid (heldB ⟨n, q, r, p, kk, cc⟩ who l y.t y.a = o) := ht2.trans Ho.out
        have Ht1 := Lib.hid ht1'
        clear ht1 ht2 ht1'
        have KP : Hid (∀ w', Below wo.heap.size wo w' → (fun w' => Below wo.heap.size wo w' ∧ (w'.cell? ⟨w.heap.size, 0, none⟩ = some (.int .i64 n) ∧ w'.cell? ⟨w.heap.size, 1, none⟩ = some (.int .i64 q) ∧ w'.cell? ⟨w.heap.size, 2, none⟩ = some (.int .i64 r) ∧ w'.cell? ⟨w.heap.size, 3, none⟩ = some (.int .i64 p) ∧ w'.cell? ⟨w.heap.size, 4, none⟩ = some (.int .i64 kk) ∧ w'.cell? ⟨w.heap.size, 5, none⟩ = some (.int .i64 cc)) ∧ (w'.cell? ⟨b, off + k * 7, none⟩ = some (.int .i64 y.clk) ∧ w'.cell? ⟨b, off + k * 7 + 1, none⟩ = some (.int .i64 y.t) ∧ w'.cell? ⟨b, off + k * 7 + 2, none⟩ = some (.int .i64 y.a) ∧ w'.cell? ⟨b, off + k * 7 + 3, none⟩ = some (.int .i64 y.m) ∧ w'.cell? ⟨b, off + k * 7 + 4, none⟩ = some (.int .i64 y.asks) ∧ w'.cell? ⟨b, off + k * 7 + 5, none⟩ = some (.int .i64 y.try_) ∧ w'.cell? ⟨b, off + k * 7 + 6, none⟩ = some (.int .i64 y.ph)) ∧ (w'.cell? ⟨w2.heap.size, 0, none⟩ = some (.int .i64 rt) ∧ w'.cell? ⟨w2.heap.size, 1, none⟩ = some (.int .i64 ra) ∧ w'.cell? ⟨w2.heap.size, 2, none⟩ = some (.int .i64 rm))) w') :=
          fun w' h => ⟨h, config_cells (HWr.out.later h HWr.out.lt), HN.out.later h, rq_cells (HQr.out.later h HQr.out.lt)⟩
        go_wp2_with fail
        refine wp_region_held_drew (S := (fun w' => Below wo.heap.size wo w' ∧ (w'.cell? ⟨w.heap.size, 0, none⟩ = some (.int .i64 n) ∧ w'.cell? ⟨w.heap.size, 1, none⟩ = some (.int .i64 q) ∧ w'.cell? ⟨w.heap.size, 2, none⟩ = some (.int .i64 r) ∧ w'.cell? ⟨w.heap.size, 3, none⟩ = some (.int .i64 p) ∧ w'.cell? ⟨w.heap.size, 4, none⟩ = some (.int .i64 kk) ∧ w'.cell? ⟨w.heap.size, 5, none⟩ = some (.int .i64 cc)) ∧ (w'.cell? ⟨b, off + k * 7, none⟩ = some (.int .i64 y.clk) ∧ w'.cell? ⟨b, off + k * 7 + 1, none⟩ = some (.int .i64 y.t) ∧ w'.cell? ⟨b, off + k * 7 + 2, none⟩ = some (.int .i64 y.a) ∧ w'.cell? ⟨b, off + k * 7 + 3, none⟩ = some (.int .i64 y.m) ∧ w'.cell? ⟨b, off + k * 7 + 4, none⟩ = some (.int .i64 y.asks) ∧ w'.cell? ⟨b, off + k * 7 + 5, none⟩ = some (.int .i64 y.try_) ∧ w'.cell? ⟨b, off + k * 7 + 6, none⟩ = some (.int .i64 y.ph)) ∧ (w'.cell? ⟨w2.heap.size, 0, none⟩ = some (.int .i64 rt) ∧ w'.cell? ⟨w2.heap.size, 1, none⟩ = some (.int .i64 ra) ∧ w'.cell? ⟨w2.heap.size, 2, none⟩ = some (.int .i64 rm)))) (by kernel_rfl) (KP.out _ (Below.refl _ _).drew) (fun hHeld => ?_)
        refine wpAnyH_take (i := 0) (oi := ⟨some 67, _, _, _, _, _⟩) (v := ?_) rfl (by kernel_rfl) (by kernel_rfl) (by kernel_rfl) (fun _ _ _ h => h) (Or.inl ⟨by rfl, ?_⟩) (by assumption) ?_
        rotate_left 1
        · intro w hSw
          try dsimp only at hSw
          go_simp
          try with_reducible rfl
        simp only [Act.put, List.setIfInBounds_toArray, List.set_cons_zero, List.set_cons_succ]
        refine wpAnyH_take (i := 1) (oi := ⟨some 68, _, _, _, _, _⟩) (v := ?_) rfl (by kernel_rfl) (by kernel_rfl) (by kernel_rfl) (fun _ _ _ h => h) (Or.inl ⟨by rfl, ?_⟩) (by assumption) ?_
        rotate_left 1
        · intro w hSw
          try dsimp only at hSw
          go_simp
          try with_reducible rfl
        simp only [Act.put, List.setIfInBounds_toArray, List.set_cons_zero, List.set_cons_succ]
        refine wpAnyH_take (i := 2) (oi := ⟨some 69, _, _, _, _, _⟩) (v := ?_) rfl (by kernel_rfl) (by kernel_rfl) (by kernel_rfl) (fun _ _ _ h => h) (Or.inl ⟨by rfl, ?_⟩) (by assumption) ?_
        rotate_left 1
        · intro w hSw
          try dsimp only at hSw
          go_simp
          try with_reducible rfl
        simp only [Act.put, List.setIfInBounds_toArray, List.set_cons_zero, List.set_cons_succ]
        refine wpAnyH_take (i := 3) (oi := ⟨some 70, _, _, _, _, _⟩) (v := ?_) rfl (by kernel_rfl) (by kernel_rfl) (by kernel_rfl) (fun _ _ _ h => h) (Or.inl ⟨by rfl, ?_⟩) (by assumption) ?_
        rotate_left 1
        · intro w hSw
          try dsimp only at hSw
          go_simp
          try with_reducible rfl
        simp only [Act.put, List.setIfInBounds_toArray, List.set_cons_zero, List.set_cons_succ]
        refine wpAnyH_take (i := 4) (oi := ⟨some 71, _, _, _, _, _⟩) (v := ?_) rfl (by kernel_rfl) (by kernel_rfl) (by kernel_rfl) (fun _ _ _ h => h) (Or.inl ⟨by rfl, ?_⟩) (by assumption) ?_
        rotate_left 1
        · intro w hSw
          try dsimp only at hSw
          go_simp
          try with_reducible rfl
        simp only [Act.put, List.setIfInBounds_toArray, List.set_cons_zero, List.set_cons_succ]
        refine wpAnyH_take (i := 5) (oi := ⟨some 72, _, _, _, _, _⟩) (v := ?_) rfl (by kernel_rfl) (by kernel_rfl) (by kernel_rfl) (fun _ _ _ h => h) (Or.inl ⟨by rfl, ?_⟩) (by assumption) ?_
        rotate_left 1
        · intro w hSw
          try dsimp only at hSw
          go_simp
          try with_reducible rfl
        simp only [Act.put, List.setIfInBounds_toArray, List.set_cons_zero, List.set_cons_succ]
        refine wpAnyH_take (i := 6) (oi := ⟨some 73, _, _, _, _, _⟩) (v := ?_) rfl (by kernel_rfl) (by kernel_rfl) (by kernel_rfl) (fun _ _ _ h => h) (Or.inl ⟨by rfl, ?_⟩) (by assumption) ?_
        rotate_left 1
        · intro w hSw
          try dsimp only at hSw
          go_simp
          try with_reducible rfl
        simp only [Act.put, List.setIfInBounds_toArray, List.set_cons_zero, List.set_cons_succ]
        refine wpAnyH_take (i := 7) (oi := ⟨some 74, _, _, _, _, _⟩) (v := ?_) rfl (by kernel_rfl) (by kernel_rfl) (by kernel_rfl) (fun _ _ _ h => h) (Or.inl ⟨by rfl, ?_⟩) (by assumption) ?_
        rotate_left 1
        · intro w hSw
          try dsimp only at hSw
          go_simp
          try with_reducible rfl
        simp only [Act.put, List.setIfInBounds_toArray, List.set_cons_zero, List.set_cons_succ]
        refine wpAnyH_ready (rs := [8]) (by kernel_rfl) (by simp) ?_
        refine AllReadyH.cons rfl (fun K hK => ?_) AllReadyH.nil
        go_simp
        go_wp2_with (go_at_call 17; refine (refolder_calls rt ra y.t y.a _).mono ?_; rw [Ho.out]; rintro ee wp ⟨rfl, hb2⟩; have hS1 := held_next hHeld.1 hb2)
        refine hK.out _ _ (KP.out _ hS1) (fun hHeld2 => ?_)
        clear hHeld hK K
        have hHeld := hHeld2
        clear hHeld2
        refine wpAnyH_take (i := 9) (oi := ⟨some 12, _, _, _, _, _⟩) (v := ?_) rfl (by kernel_rfl) (by kernel_rfl) (by kernel_rfl) (fun _ _ _ h => h) (Or.inl ⟨by rfl, ?_⟩) (by assumption) ?_
        rotate_left 1
        · intro w hSw
          try dsimp only at hSw
          go_simp
          try with_reducible rfl
        simp only [Act.put, List.setIfInBounds_toArray, List.set_cons_zero, List.set_cons_succ]
        refine wpAnyH_done (by kernel_rfl) ?_ _
        have HWn := Lib.hid (HWr.out.later hHeld.1 HWr.out.lt)
        have HQn := Lib.hid (HQr.out.later hHeld.1 HQr.out.lt)
        have HNn := Lib.hid (HN.out.later hHeld.1)
        have Hbn := Lib.hid (held_next Hbr.out hHeld.1)
        clear hHeld KP HWr HQr HN Hbr
        have HWr := HWn; have HQr := HQn; have HN := HNn; have Hbr := Hbn
        clear HWn HQn HNn Hbn
        have ht1' := Ht1.out
        have hne := fun w => run_eql_rqs w (headOf y) ⟨rt, ra, rm⟩
        by_cases hyr : headOf y = ⟨rt, ra, rm⟩
        · rw [decide_eq_true hyr] at hne ht1'
          obtain rfl : o = false := ht1'
          unfold headOf at hne
          clear hyr
          have KP : Hid (∀ w', Below wp.heap.size wp w' → (fun w' => Below wp.heap.size wp w' ∧ (w'.cell? ⟨w.heap.size, 0, none⟩ = some (.int .i64 n) ∧ w'.cell? ⟨w.heap.size, 1, none⟩ = some (.int .i64 q) ∧ w'.cell? ⟨w.heap.size, 2, none⟩ = some (.int .i64 r) ∧ w'.cell? ⟨w.heap.size, 3, none⟩ = some (.int .i64 p) ∧ w'.cell? ⟨w.heap.size, 4, none⟩ = some (.int .i64 kk) ∧ w'.cell? ⟨w.heap.size, 5, none⟩ = some (.int .i64 cc)) ∧ (w'.cell? ⟨b, off + k * 7, none⟩ = some (.int .i64 y.clk) ∧ w'.cell? ⟨b, off + k * 7 + 1, none⟩ = some (.int .i64 y.t) ∧ w'.cell? ⟨b, off + k * 7 + 2, none⟩ = some (.int .i64 y.a) ∧ w'.cell? ⟨b, off + k * 7 + 3, none⟩ = some (.int .i64 y.m) ∧ w'.cell? ⟨b, off + k * 7 + 4, none⟩ = some (.int .i64 y.asks) ∧ w'.cell? ⟨b, off + k * 7 + 5, none⟩ = some (.int .i64 y.try_) ∧ w'.cell? ⟨b, off + k * 7 + 6, none⟩ = some (.int .i64 y.ph)) ∧ (w'.cell? ⟨w2.heap.size, 0, none⟩ = some (.int .i64 rt) ∧ w'.cell? ⟨w2.heap.size, 1, none⟩ = some (.int .i64 ra) ∧ w'.cell? ⟨w2.heap.size, 2, none⟩ = some (.int .i64 rm))) w') :=
            fun w' h => ⟨h, config_cells (HWr.out.later h HWr.out.lt), HN.out.later h, rq_cells (HQr.out.later h HQr.out.lt)⟩
          go_wp2_with fail
          refine wp_region_held_drew (S := (fun w' => Below wp.heap.size wp w' ∧ (w'.cell? ⟨w.heap.size, 0, none⟩ = some (.int .i64 n) ∧ w'.cell? ⟨w.heap.size, 1, none⟩ = some (.int .i64 q) ∧ w'.cell? ⟨w.heap.size, 2, none⟩ = some (.int .i64 r) ∧ w'.cell? ⟨w.heap.size, 3, none⟩ = some (.int .i64 p) ∧ w'.cell? ⟨w.heap.size, 4, none⟩ = some (.int .i64 kk) ∧ w'.cell? ⟨w.heap.size, 5, none⟩ = some (.int .i64 cc)) ∧ (w'.cell? ⟨b, off + k * 7, none⟩ = some (.int .i64 y.clk) ∧ w'.cell? ⟨b, off + k * 7 + 1, none⟩ = some (.int .i64 y.t) ∧ w'.cell? ⟨b, off + k * 7 + 2, none⟩ = some (.int .i64 y.a) ∧ w'.cell? ⟨b, off + k * 7 + 3, none⟩ = some (.int .i64 y.m) ∧ w'.cell? ⟨b, off + k * 7 + 4, none⟩ = some (.int .i64 y.asks) ∧ w'.cell? ⟨b, off + k * 7 + 5, none⟩ = some (.int .i64 y.try_) ∧ w'.cell? ⟨b, off + k * 7 + 6, none⟩ = some (.int .i64 y.ph)) ∧ (w'.cell? ⟨w2.heap.size, 0, none⟩ = some (.int .i64 rt) ∧ w'.cell? ⟨w2.heap.size, 1, none⟩ = some (.int .i64 ra) ∧ w'.cell? ⟨w2.heap.size, 2, none⟩ = some (.int .i64 rm)))) (by kernel_rfl) (KP.out _ (Below.refl _ _).drew) (fun hHeld => ?_)
          refine wpAnyH_take (i := 0) (oi := ⟨some 76, _, _, _, _, _⟩) (v := ?_) rfl (by kernel_rfl) (by kernel_rfl) (by kernel_rfl) (fun _ _ _ h => h) (Or.inl ⟨by rfl, ?_⟩) (by assumption) ?_
          rotate_left 1
          · intro w hSw
            try dsimp only at hSw
            go_simp
            try with_reducible rfl
          simp only [Act.put, List.setIfInBounds_toArray, List.set_cons_zero, List.set_cons_succ]
          refine wpAnyH_take (i := 1) (oi := ⟨some 77, _, _, _, _, _⟩) (v := ?_) rfl (by kernel_rfl) (by kernel_rfl) (by kernel_rfl) (fun _ _ _ h => h) (Or.inl ⟨by rfl, ?_⟩) (by assumption) ?_
          rotate_left 1
          · intro w hSw
            try dsimp only at hSw
            go_simp
            try with_reducible rfl
          simp only [Act.put, List.setIfInBounds_toArray, List.set_cons_zero, List.set_cons_succ]
          refine wpAnyH_take (i := 2) (oi := ⟨some 78, _, _, _, _, _⟩) (v := ?_) rfl (by kernel_rfl) (by kernel_rfl) (by kernel_rfl) (fun _ _ _ h => h) (Or.inl ⟨by rfl, ?_⟩) (by assumption) ?_
          rotate_left 1
          · intro w hSw
            try dsimp only at hSw
            go_simp
            try with_reducible rfl
          simp only [Act.put, List.setIfInBounds_toArray, List.set_cons_zero, List.set_cons_succ]
          refine wpAnyH_take (i := 3) (oi := ⟨some 79, _, _, _, _, _⟩) (v := ?_) rfl (by kernel_rfl) (by kernel_rfl) (by kernel_rfl) (fun _ _ _ h => h) (Or.inl ⟨by rfl, ?_⟩) (by assumption) ?_
          rotate_left 1
          · intro w hSw
            try dsimp only at hSw
            go_simp
            try with_reducible rfl
          simp only [Act.put, List.setIfInBounds_toArray, List.set_cons_zero, List.set_cons_succ]
          refine wpAnyH_take (i := 4) (oi := ⟨some 80, _, _, _, _, _⟩) (v := ?_) rfl (by kernel_rfl) (by kernel_rfl) (by kernel_rfl) (fun _ _ _ h => h) (Or.inl ⟨by rfl, ?_⟩) (by assumption) ?_
          rotate_left 1
          · intro w hSw
            try dsimp only at hSw
            go_simp
            try with_reducible rfl
          simp only [Act.put, List.setIfInBounds_toArray, List.set_cons_zero, List.set_cons_succ]
          refine wpAnyH_take (i := 5) (oi := ⟨some 81, _, _, _, _, _⟩) (v := ?_) rfl (by kernel_rfl) (by kernel_rfl) (by kernel_rfl) (fun _ _ _ h => h) (Or.inl ⟨by rfl, ?_⟩) (by assumption) ?_
          rotate_left 1
          · intro w hSw
            try dsimp only at hSw
            go_simp
            try with_reducible rfl
          simp only [Act.put, List.setIfInBounds_toArray, List.set_cons_zero, List.set_cons_succ]
          refine wpAnyH_take (i := 6) (oi := ⟨some 82, _, _, _, _, _⟩) (v := ?_) rfl (by kernel_rfl) (by kernel_rfl) (by kernel_rfl) (fun _ _ _ h => h) (Or.inl ⟨by rfl, ?_⟩) (by assumption) ?_
          rotate_left 1
          · intro w hSw
            try dsimp only at hSw
            go_simp
            try with_reducible rfl
          simp only [Act.put, List.setIfInBounds_toArray, List.set_cons_zero, List.set_cons_succ]
          refine wpAnyH_take (i := 7) (oi := ⟨some 83, _, _, _, _, _⟩) (v := ?_) rfl (by kernel_rfl) (by kernel_rfl) (by kernel_rfl) (fun _ _ _ h => h) (Or.inl ⟨by rfl, ?_⟩) (by assumption) ?_
          rotate_left 1
          · intro w hSw
            try dsimp only at hSw
            go_simp
            try with_reducible rfl
          simp only [Act.put, List.setIfInBounds_toArray, List.set_cons_zero, List.set_cons_succ]
          refine wpAnyH_take (i := 8) (oi := ⟨some 84, _, _, _, _, _⟩) (v := ?_) rfl (by kernel_rfl) (by kernel_rfl) (by kernel_rfl) (fun _ _ _ h => h) (Or.inl ⟨by rfl, ?_⟩) (by assumption) ?_
          rotate_left 1
          · intro w hSw
            try dsimp only at hSw
            go_simp
            try with_reducible rfl
          simp only [Act.put, List.setIfInBounds_toArray, List.set_cons_zero, List.set_cons_succ]
          refine wpAnyH_take (i := 9) (oi := ⟨some 85, _, _, _, _, _⟩) (v := ?_) rfl (by kernel_rfl) (by kernel_rfl) (by kernel_rfl) (fun _ _ _ h => h) (Or.inl ⟨by rfl, ?_⟩) (by assumption) ?_
          rotate_left 1
          · intro w hSw
            try dsimp only at hSw
            go_simp
            try with_reducible rfl
          simp only [Act.put, List.setIfInBounds_toArray, List.set_cons_zero, List.set_cons_succ]
          refine wpAnyH_take (i := 10) (oi := ⟨some 86, _, _, _, _, _⟩) (v := ?_) rfl (by kernel_rfl) (by kernel_rfl) (by kernel_rfl) (fun _ _ _ h => h) (Or.inl ⟨by rfl, ?_⟩) (by assumption) ?_
          rotate_left 1
          · intro w hSw
            try dsimp only at hSw
            go_simp
            try with_reducible rfl
          simp only [Act.put, List.setIfInBounds_toArray, List.set_cons_zero, List.set_cons_succ]
          refine wpAnyH_take (i := 11) (oi := ⟨some 87, _, _, _, _, _⟩) (v := ?_) rfl (by kernel_rfl) (by kernel_rfl) (by kernel_rfl) (fun _ _ _ h => h) (Or.inl ⟨by rfl, ?_⟩) (by assumption) ?_
          rotate_left 1
          · intro w hSw
            try dsimp only at hSw
            go_simp
            try with_reducible rfl
          simp only [Act.put, List.setIfInBounds_toArray, List.set_cons_zero, List.set_cons_succ]
          refine wpAnyH_take (i := 12) (oi := ⟨some 88, _, _, _, _, _⟩) (v := ?_) rfl (by kernel_rfl) (by kernel_rfl) (by kernel_rfl) (fun _ _ _ h => h) (Or.inl ⟨by rfl, ?_⟩) (by assumption) ?_
          rotate_left 1
          · intro w hSw
            try dsimp only at hSw
            go_simp
            try with_reducible rfl
          simp only [Act.put, List.setIfInBounds_toArray, List.set_cons_zero, List.set_cons_succ]
          refine wpAnyH_take (i := 13) (oi := ⟨some 89, _, _, _, _, _⟩) (v := ?_) rfl (by kernel_rfl) (by kernel_rfl) (by kernel_rfl) (fun _ _ _ h => h) (Or.inl ⟨by rfl, ?_⟩) (by assumption) ?_
          rotate_left 1
          · intro w hSw
            try dsimp only at hSw
            go_simp
            try with_reducible rfl
          simp only [Act.put, List.setIfInBounds_toArray, List.set_cons_zero, List.set_cons_succ]
          refine wpAnyH_take (i := 14) (oi := ⟨some 90, _, _, _, _, _⟩) (v := ?_) rfl (by kernel_rfl) (by kernel_rfl) (by kernel_rfl) (fun _ _ _ h => h) (Or.inl ⟨by rfl, ?_⟩) (by assumption) ?_
          rotate_left 1
          · intro w hSw
            try dsimp only at hSw
            go_simp
            try with_reducible rfl
          simp only [Act.put, List.setIfInBounds_toArray, List.set_cons_zero, List.set_cons_succ]
          refine wpAnyH_take (i := 15) (oi := ⟨some 91, _, _, _, _, _⟩) (v := ?_) rfl (by kernel_rfl) (by kernel_rfl) (by kernel_rfl) (fun _ _ _ h => h) (Or.inl ⟨by rfl, ?_⟩) (by assumption) ?_
          rotate_left 1
          · intro w hSw
            try dsimp only at hSw
            go_simp
            try with_reducible rfl
          simp only [Act.put, List.setIfInBounds_toArray, List.set_cons_zero, List.set_cons_succ]
          refine wpAnyH_take (i := 16) (oi := ⟨some 92, _, _, _, _, _⟩) (v := ?_) rfl (by kernel_rfl) (by kernel_rfl) (by kernel_rfl) (fun _ _ _ h => h) (Or.inl ⟨by rfl, ?_⟩) (by assumption) ?_
          rotate_left 1
          · intro w hSw
            try dsimp only at hSw
            go_simp
            try with_reducible rfl
          simp only [Act.put, List.setIfInBounds_toArray, List.set_cons_zero, List.set_cons_succ]
          refine wpAnyH_take (i := 17) (oi := ⟨some 93, _, _, _, _, _⟩) (v := ?_) rfl (by kernel_rfl) (by kernel_rfl) (by kernel_rfl) (fun _ _ _ h => h) (Or.inl ⟨by rfl, ?_⟩) (by assumption) ?_
          rotate_left 1
          · intro w hSw
            try dsimp only at hSw
            go_simp
            try with_reducible rfl
          simp only [Act.put, List.setIfInBounds_toArray, List.set_cons_zero, List.set_cons_succ]
          refine wpAnyH_take (i := 18) (oi := ⟨some 94, _, _, _, _, _⟩) (v := ?_) rfl (by kernel_rfl) (by kernel_rfl) (by kernel_rfl) (fun _ _ _ h => h) (Or.inl ⟨by rfl, ?_⟩) (by assumption) ?_
          rotate_left 1
          · intro w hSw
            try dsimp only at hSw
            go_simp
            try with_reducible rfl
          simp only [Act.put, List.setIfInBounds_toArray, List.set_cons_zero, List.set_cons_succ]
          refine wpAnyH_take (i := 20) (oi := ⟨some 96, _, _, _, _, _⟩) (v := ?_) rfl (by kernel_rfl) (by kernel_rfl) (by kernel_rfl) (fun _ _ _ h => h) (Or.inl ⟨by rfl, ?_⟩) (by assumption) ?_
          rotate_left 1
          · intro w hSw
            try dsimp only at hSw
            go_simp
            try with_reducible rfl
          simp only [Act.put, List.setIfInBounds_toArray, List.set_cons_zero, List.set_cons_succ]
          refine wpAnyH_ready (rs := [19]) (by kernel_rfl) (by simp) ?_
          refine AllReadyH.cons rfl (fun K hK => ?_) AllReadyH.nil
          go_simp
          go_wp2_with (go_at_call 16; refine (cHeld_calls ⟨n, q, r, p, kk, cc⟩ who _ m cp l y.t y.a Hm.out (by omega) _ (HB.out.later (held_next Hbr.out hHeld.1))).mono ?_; rw [Hh.out]; rintro ee wq ⟨rfl, hb2⟩; have hS1 := held_next hHeld.1 hb2)
          refine hK.out _ _ (KP.out _ hS1) (fun hHeld2 => ?_)
          clear hHeld hK K
          have hHeld := hHeld2
          clear hHeld2
          refine wpAnyH_take (i := 21) (oi := ⟨some 97, _, _, _, _, _⟩) (v := ?_) rfl (by kernel_rfl) (by kernel_rfl) (by kernel_rfl) (fun _ _ _ h => h) (Or.inl ⟨by rfl, ?_⟩) (by assumption) ?_
          rotate_left 1
          · intro w hSw
            try dsimp only at hSw
            go_simp
            try with_reducible rfl
          simp only [Act.put, List.setIfInBounds_toArray, List.set_cons_zero, List.set_cons_succ]
          refine wpAnyH_take (i := 22) (oi := ⟨some 98, _, _, _, _, _⟩) (v := ?_) rfl (by kernel_rfl) (by kernel_rfl) (by kernel_rfl) (fun _ _ _ h => h) (Or.inl ⟨by rfl, ?_⟩) (by assumption) ?_
          rotate_left 1
          · intro w hSw
            try dsimp only at hSw
            go_simp
            try with_reducible rfl
          simp only [Act.put, List.setIfInBounds_toArray, List.set_cons_zero, List.set_cons_succ]
          refine wpAnyH_done (by kernel_rfl) ?_ _
          have HWn := Lib.hid (HWr.out.later hHeld.1 HWr.out.lt)
          have HQn := Lib.hid (HQr.out.later hHeld.1 HQr.out.lt)
          have HNn := Lib.hid (HN.out.later hHeld.1)
          have Hbn := Lib.hid (held_next Hbr.out hHeld.1)
          clear hHeld KP HWr HQr HN Hbr
          have HWr := HWn; have HQr := HQn; have HN := HNn; have Hbr := Hbn
          clear HWn HQn HNn Hbn
          go_wp2_with fail
          go_roundw
          case rel => exact ⟨k + 1, by omega, by go_num, Hbr.out, HWr.out, HQr.out⟩
          case measure => simp [intOf]; omega
        · rw [decide_eq_false hyr] at hne ht1'
          obtain rfl : o = true := ht1'
          unfold headOf at hne
          clear hyr
          have KP : Hid (∀ w', Below wp.heap.size wp w' → (fun w' => Below wp.heap.size wp w' ∧ (w'.cell? ⟨w.heap.size, 0, none⟩ = some (.int .i64 n) ∧ w'.cell? ⟨w.heap.size, 1, none⟩ = some (.int .i64 q) ∧ w'.cell? ⟨w.heap.size, 2, none⟩ = some (.int .i64 r) ∧ w'.cell? ⟨w.heap.size, 3, none⟩ = some (.int .i64 p) ∧ w'.cell? ⟨w.heap.size, 4, none⟩ = some (.int .i64 kk) ∧ w'.cell? ⟨w.heap.size, 5, none⟩ = some (.int .i64 cc)) ∧ (w'.cell? ⟨b, off + k * 7, none⟩ = some (.int .i64 y.clk) ∧ w'.cell? ⟨b, off + k * 7 + 1, none⟩ = some (.int .i64 y.t) ∧ w'.cell? ⟨b, off + k * 7 + 2, none⟩ = some (.int .i64 y.a) ∧ w'.cell? ⟨b, off + k * 7 + 3, none⟩ = some (.int .i64 y.m) ∧ w'.cell? ⟨b, off + k * 7 + 4, none⟩ = some (.int .i64 y.asks) ∧ w'.cell? ⟨b, off + k * 7 + 5, none⟩ = some (.int .i64 y.try_) ∧ w'.cell? ⟨b, off + k * 7 + 6, none⟩ = some (.int .i64 y.ph)) ∧ (w'.cell? ⟨w2.heap.size, 0, none⟩ = some (.int .i64 rt) ∧ w'.cell? ⟨w2.heap.size, 1, none⟩ = some (.int .i64 ra) ∧ w'.cell? ⟨w2.heap.size, 2, none⟩ = some (.int .i64 rm))) w') :=
            fun w' h => ⟨h, config_cells (HWr.out.later h HWr.out.lt), HN.out.later h, rq_cells (HQr.out.later h HQr.out.lt)⟩
          go_wp2_with fail
          refine wp_region_held_drew (S := (fun w' => Below wp.heap.size wp w' ∧ (w'.cell? ⟨w.heap.size, 0, none⟩ = some (.int .i64 n) ∧ w'.cell? ⟨w.heap.size, 1, none⟩ = some (.int .i64 q) ∧ w'.cell? ⟨w.heap.size, 2, none⟩ = some (.int .i64 r) ∧ w'.cell? ⟨w.heap.size, 3, none⟩ = some (.int .i64 p) ∧ w'.cell? ⟨w.heap.size, 4, none⟩ = some (.int .i64 kk) ∧ w'.cell? ⟨w.heap.size, 5, none⟩ = some (.int .i64 cc)) ∧ (w'.cell? ⟨b, off + k * 7, none⟩ = some (.int .i64 y.clk) ∧ w'.cell? ⟨b, off + k * 7 + 1, none⟩ = some (.int .i64 y.t) ∧ w'.cell? ⟨b, off + k * 7 + 2, none⟩ = some (.int .i64 y.a) ∧ w'.cell? ⟨b, off + k * 7 + 3, none⟩ = some (.int .i64 y.m) ∧ w'.cell? ⟨b, off + k * 7 + 4, none⟩ = some (.int .i64 y.asks) ∧ w'.cell? ⟨b, off + k * 7 + 5, none⟩ = some (.int .i64 y.try_) ∧ w'.cell? ⟨b, off + k * 7 + 6, none⟩ = some (.int .i64 y.ph)) ∧ (w'.cell? ⟨w2.heap.size, 0, none⟩ = some (.int .i64 rt) ∧ w'.cell? ⟨w2.heap.size, 1, none⟩ = some (.int .i64 ra) ∧ w'.cell? ⟨w2.heap.size, 2, none⟩ = some (.int .i64 rm)))) (by kernel_rfl) (KP.out _ (Below.refl _ _).drew) (fun hHeld => ?_)
          refine wpAnyH_take (i := 0) (oi := ⟨some 76, _, _, _, _, _⟩) (v := ?_) rfl (by kernel_rfl) (by kernel_rfl) (by kernel_rfl) (fun _ _ _ h => h) (Or.inl ⟨by rfl, ?_⟩) (by assumption) ?_
          rotate_left 1
          · intro w hSw
            try dsimp only at hSw
            go_simp
            try with_reducible rfl
          simp only [Act.put, List.setIfInBounds_toArray, List.set_cons_zero, List.set_cons_succ]
          refine wpAnyH_take (i := 1) (oi := ⟨some 77, _, _, _, _, _⟩) (v := ?_) rfl (by kernel_rfl) (by kernel_rfl) (by kernel_rfl) (fun _ _ _ h => h) (Or.inl ⟨by rfl, ?_⟩) (by assumption) ?_
          rotate_left 1
          · intro w hSw
            try dsimp only at hSw
            go_simp
            try with_reducible rfl
          simp only [Act.put, List.setIfInBounds_toArray, List.set_cons_zero, List.set_cons_succ]
          refine wpAnyH_take (i := 2) (oi := ⟨some 78, _, _, _, _, _⟩) (v := ?_) rfl (by kernel_rfl) (by kernel_rfl) (by kernel_rfl) (fun _ _ _ h => h) (Or.inl ⟨by rfl, ?_⟩) (by assumption) ?_
          rotate_left 1
          · intro w hSw
            try dsimp only at hSw
            go_simp
            try with_reducible rfl
          simp only [Act.put, List.setIfInBounds_toArray, List.set_cons_zero, List.set_cons_succ]
          refine wpAnyH_take (i := 3) (oi := ⟨some 79, _, _, _, _, _⟩) (v := ?_) rfl (by kernel_rfl) (by kernel_rfl) (by kernel_rfl) (fun _ _ _ h => h) (Or.inl ⟨by rfl, ?_⟩) (by assumption) ?_
          rotate_left 1
          · intro w hSw
            try dsimp only at hSw
            go_simp
            try with_reducible rfl
          simp only [Act.put, List.setIfInBounds_toArray, List.set_cons_zero, List.set_cons_succ]
          refine wpAnyH_take (i := 4) (oi := ⟨some 80, _, _, _, _, _⟩) (v := ?_) rfl (by kernel_rfl) (by kernel_rfl) (by kernel_rfl) (fun _ _ _ h => h) (Or.inl ⟨by rfl, ?_⟩) (by assumption) ?_
          rotate_left 1
          · intro w hSw
            try dsimp only at hSw
            go_simp
            try with_reducible rfl
          simp only [Act.put, List.setIfInBounds_toArray, List.set_cons_zero, List.set_cons_succ]
          refine wpAnyH_take (i := 5) (oi := ⟨some 81, _, _, _, _, _⟩) (v := ?_) rfl (by kernel_rfl) (by kernel_rfl) (by kernel_rfl) (fun _ _ _ h => h) (Or.inl ⟨by rfl, ?_⟩) (by assumption) ?_
          rotate_left 1
          · intro w hSw
            try dsimp only at hSw
            go_simp
            try with_reducible rfl
          simp only [Act.put, List.setIfInBounds_toArray, List.set_cons_zero, List.set_cons_succ]
          refine wpAnyH_take (i := 6) (oi := ⟨some 82, _, _, _, _, _⟩) (v := ?_) rfl (by kernel_rfl) (by kernel_rfl) (by kernel_rfl) (fun _ _ _ h => h) (Or.inl ⟨by rfl, ?_⟩) (by assumption) ?_
          rotate_left 1
          · intro w hSw
            try dsimp only at hSw
            go_simp
            try with_reducible rfl
          simp only [Act.put, List.setIfInBounds_toArray, List.set_cons_zero, List.set_cons_succ]
          refine wpAnyH_take (i := 7) (oi := ⟨some 83, _, _, _, _, _⟩) (v := ?_) rfl (by kernel_rfl) (by kernel_rfl) (by kernel_rfl) (fun _ _ _ h => h) (Or.inl ⟨by rfl, ?_⟩) (by assumption) ?_
          rotate_left 1
          · intro w hSw
            try dsimp only at hSw
            go_simp
            try with_reducible rfl
          simp only [Act.put, List.setIfInBounds_toArray, List.set_cons_zero, List.set_cons_succ]
          refine wpAnyH_take (i := 8) (oi := ⟨some 84, _, _, _, _, _⟩) (v := ?_) rfl (by kernel_rfl) (by kernel_rfl) (by kernel_rfl) (fun _ _ _ h => h) (Or.inl ⟨by rfl, ?_⟩) (by assumption) ?_
          rotate_left 1
          · intro w hSw
            try dsimp only at hSw
            go_simp
            try with_reducible rfl
          simp only [Act.put, List.setIfInBounds_toArray, List.set_cons_zero, List.set_cons_succ]
          refine wpAnyH_take (i := 9) (oi := ⟨some 85, _, _, _, _, _⟩) (v := ?_) rfl (by kernel_rfl) (by kernel_rfl) (by kernel_rfl) (fun _ _ _ h => h) (Or.inl ⟨by rfl, ?_⟩) (by assumption) ?_
          rotate_left 1
          · intro w hSw
            try dsimp only at hSw
            go_simp
            try with_reducible rfl
          simp only [Act.put, List.setIfInBounds_toArray, List.set_cons_zero, List.set_cons_succ]
          refine wpAnyH_take (i := 10) (oi := ⟨some 86, _, _, _, _, _⟩) (v := ?_) rfl (by kernel_rfl) (by kernel_rfl) (by kernel_rfl) (fun _ _ _ h => h) (Or.inl ⟨by rfl, ?_⟩) (by assumption) ?_
          rotate_left 1
          · intro w hSw
            try dsimp only at hSw
            go_simp
            try with_reducible rfl
          simp only [Act.put, List.setIfInBounds_toArray, List.set_cons_zero, List.set_cons_succ]
          refine wpAnyH_take (i := 11) (oi := ⟨some 87, _, _, _, _, _⟩) (v := ?_) rfl (by kernel_rfl) (by kernel_rfl) (by kernel_rfl) (fun _ _ _ h => h) (Or.inl ⟨by rfl, ?_⟩) (by assumption) ?_
          rotate_left 1
          · intro w hSw
            try dsimp only at hSw
            go_simp
            try with_reducible rfl
          simp only [Act.put, List.setIfInBounds_toArray, List.set_cons_zero, List.set_cons_succ]
          refine wpAnyH_take (i := 12) (oi := ⟨some 88, _, _, _, _, _⟩) (v := ?_) rfl (by kernel_rfl) (by kernel_rfl) (by kernel_rfl) (fun _ _ _ h => h) (Or.inl ⟨by rfl, ?_⟩) (by assumption) ?_
          rotate_left 1
          · intro w hSw
            try dsimp only at hSw
            go_simp
            try with_reducible rfl
          simp only [Act.put, List.setIfInBounds_toArray, List.set_cons_zero, List.set_cons_succ]
          refine wpAnyH_take (i := 13) (oi := ⟨some 89, _, _, _, _, _⟩) (v := ?_) rfl (by kernel_rfl) (by kernel_rfl) (by kernel_rfl) (fun _ _ _ h => h) (Or.inl ⟨by rfl, ?_⟩) (by assumption) ?_
          rotate_left 1
          · intro w hSw
            try dsimp only at hSw
            go_simp
            try with_reducible rfl
          simp only [Act.put, List.setIfInBounds_toArray, List.set_cons_zero, List.set_cons_succ]
          refine wpAnyH_take (i := 14) (oi := ⟨some 90, _, _, _, _, _⟩) (v := ?_) rfl (by kernel_rfl) (by kernel_rfl) (by kernel_rfl) (fun _ _ _ h => h) (Or.inl ⟨by rfl, ?_⟩) (by assumption) ?_
          rotate_left 1
          · intro w hSw
            try dsimp only at hSw
            go_simp
            try with_reducible rfl
          simp only [Act.put, List.setIfInBounds_toArray, List.set_cons_zero, List.set_cons_succ]
          refine wpAnyH_take (i := 15) (oi := ⟨some 91, _, _, _, _, _⟩) (v := ?_) rfl (by kernel_rfl) (by kernel_rfl) (by kernel_rfl) (fun _ _ _ h => h) (Or.inl ⟨by rfl, ?_⟩) (by assumption) ?_
          rotate_left 1
          · intro w hSw
            try dsimp only at hSw
            go_simp
            try with_reducible rfl
          simp only [Act.put, List.setIfInBounds_toArray, List.set_cons_zero, List.set_cons_succ]
          refine wpAnyH_take (i := 16) (oi := ⟨some 92, _, _, _, _, _⟩) (v := ?_) rfl (by kernel_rfl) (by kernel_rfl) (by kernel_rfl) (fun _ _ _ h => h) (Or.inl ⟨by rfl, ?_⟩) (by assumption) ?_
          rotate_left 1
          · intro w hSw
            try dsimp only at hSw
            go_simp
            try with_reducible rfl
          simp only [Act.put, List.setIfInBounds_toArray, List.set_cons_zero, List.set_cons_succ]
          refine wpAnyH_take (i := 17) (oi := ⟨some 93, _, _, _, _, _⟩) (v := ?_) rfl (by kernel_rfl) (by kernel_rfl) (by kernel_rfl) (fun _ _ _ h => h) (Or.inl ⟨by rfl, ?_⟩) (by assumption) ?_
          rotate_left 1
          · intro w hSw
            try dsimp only at hSw
            go_simp
            try with_reducible rfl
          simp only [Act.put, List.setIfInBounds_toArray, List.set_cons_zero, List.set_cons_succ]
          refine wpAnyH_take (i := 18) (oi := ⟨some 94, _, _, _, _, _⟩) (v := ?_) rfl (by kernel_rfl) (by kernel_rfl) (by kernel_rfl) (fun _ _ _ h => h) (Or.inl ⟨by rfl, ?_⟩) (by assumption) ?_
          rotate_left 1
          · intro w hSw
            try dsimp only at hSw
            go_simp
            try with_reducible rfl
          simp only [Act.put, List.setIfInBounds_toArray, List.set_cons_zero, List.set_cons_succ]
          refine wpAnyH_take (i := 20) (oi := ⟨some 96, _, _, _, _, _⟩) (v := ?_) rfl (by kernel_rfl) (by kernel_rfl) (by kernel_rfl) (fun _ _ _ h => h) (Or.inl ⟨by rfl, ?_⟩) (by assumption) ?_
          rotate_left 1
          · intro w hSw
            try dsimp only at hSw
            go_simp
            try with_reducible rfl
          simp only [Act.put, List.setIfInBounds_toArray, List.set_cons_zero, List.set_cons_succ]
          refine wpAnyH_ready (rs := [19]) (by kernel_rfl) (by simp) ?_
          refine AllReadyH.cons rfl (fun K hK => ?_) AllReadyH.nil
          go_simp
          go_wp2_with (go_at_call 16; refine (cHeld_calls ⟨n, q, r, p, kk, cc⟩ who _ m cp l y.t y.a Hm.out (by omega) _ (HB.out.later (held_next Hbr.out hHeld.1))).mono ?_; rw [Hh.out]; rintro ee wq ⟨rfl, hb2⟩; have hS1 := held_next hHeld.1 hb2)
          refine hK.out _ _ (KP.out _ hS1) (fun hHeld2 => ?_)
          clear hHeld hK K
          have hHeld := hHeld2
          clear hHeld2
          refine wpAnyH_take (i := 21) (oi := ⟨some 97, _, _, _, _, _⟩) (v := ?_) rfl (by kernel_rfl) (by kernel_rfl) (by kernel_rfl) (fun _ _ _ h => h) (Or.inl ⟨by rfl, ?_⟩) (by assumption) ?_
          rotate_left 1
          · intro w hSw
            try dsimp only at hSw
            go_simp
            try with_reducible rfl
          simp only [Act.put, List.setIfInBounds_toArray, List.set_cons_zero, List.set_cons_succ]
          refine wpAnyH_take (i := 22) (oi := ⟨some 98, _, _, _, _, _⟩) (v := ?_) rfl (by kernel_rfl) (by kernel_rfl) (by kernel_rfl) (fun _ _ _ h => h) (Or.inl ⟨by rfl, ?_⟩) (by assumption) ?_
          rotate_left 1
          · intro w hSw
            try dsimp only at hSw
            go_simp
            try with_reducible rfl
          simp only [Act.put, List.setIfInBounds_toArray, List.set_cons_zero, List.set_cons_succ]
          refine wpAnyH_done (by kernel_rfl) ?_ _
          have HWn := Lib.hid (HWr.out.later hHeld.1 HWr.out.lt)
          have HQn := Lib.hid (HQr.out.later hHeld.1 HQr.out.lt)
          have HNn := Lib.hid (HN.out.later hHeld.1)
          have Hbn := Lib.hid (held_next Hbr.out hHeld.1)
          clear hHeld KP HWr HQr HN Hbr
          have HWr := HWn; have HQr := HQn; have HN := HNn; have Hbr := Hbn
          clear HWn HQn HNn Hbn
          go_wp2_with fail
          go_roundw
          case rel => exact ⟨k + 1, by omega, by go_num, Hbr.out, HWr.out, HQr.out⟩
          case measure => simp [intOf]; omega
    · obtain ⟨hc1, hc2⟩ := calls_is HOK.out HR.out
      have hc := cCalls_calls ⟨n, q, r, p, kk, cc⟩ who a0 m cp l ⟨0, 0, 0⟩ Hm.out (by omega) _ (HB.out.later Hbr.out)
      rw [hc1] at hc
      simp only at hc2
      have hne : (ra != who) = true := bne_iff_ne.2 hc2
      have Hc := Lib.hid hc
      clear hc hc1 hc2
      obtain ⟨d0, d1, d2, d3, d4, d5⟩ := config_cells HWr.out
      simp only at d0 d1 d2 d3 d4 d5
      go_wp2_with fail
      refine Hc.out.mono ?_
      rintro e w4 ⟨rfl, hb⟩
      have Hb4 := Lib.hid (held_next Hbr.out hb)
      have HW4 := Lib.hid (HWr.out.later hb HWr.out.lt)
      have HQ4 := Lib.hid (HQr.out.later hb HQr.out.lt)
      clear hb d0 d1 d2 d3 d4 d5
      obtain ⟨d0, d1, d2, d3, d4, d5⟩ := config_cells HW4.out
      obtain ⟨q0, q1, q2⟩ := rq_cells HQ4.out
      simp only at d0 d1 d2 d3 d4 d5 q0 q1 q2
      go_wp2_with fail
      refine (refclaimmay_calls ⟨n, q, r, p, kk, cc⟩ who a0 m cp l Hm.out _ (HB.out.later Hb4.out)).mono ?_
      rw [Hok.out]
      rintro e w5 ⟨rfl, hb⟩
      have Hb5 := Lib.hid (held_next Hb4.out hb)
      clear hb
      go_wp2_with fail
      go_ret
      exact ⟨by rfl, Hb5.out⟩
end Go.Proofs.Ytbpmonbehibgdaa
