/- Law LineOrder, walked: what joined leaves in the order in which it joined. The law itself is stated in LineCards. -/
import Derived.Test.YtefekkfocogghaaLineAwake
import Derived.Test.YtefekkfocogghaaAppRun
import Derived.Test.YtefekkfocogghaaEach
namespace Go.Proofs.Ytefekkfocogghaa
open Go.RowKit

theorem rqAt_drop (l : List Rq) (x : Rq) {k : Nat} (h : k < l.length) : rqAt ((l ++ [x]).drop k) 0 = rqAt l k := by
  unfold rqAt
  rw [List.getElem?_drop, Nat.add_zero, List.getElem?_append_left h]
theorem rqAt_end (l : List Rq) (x : Rq) : rqAt ((l ++ [x]).drop l.length) 0 = x := by
  rw [List.drop_left]; rfl
theorem tail_drop (l : List Rq) (k : Nat) : (l.drop k).tail = l.drop (k + 1) := by rw [List.tail_drop]
theorem run_neq_same (w : World) (x : Rq) : (binOp .neq 28 (rqV x) (rqV x)).run Try.prog w = .ok (.bool false) w := by
  have h := run_neq_rq w x x
  rw [decide_eq_true (rfl : x = x)] at h
  exact h

attribute [local go_sem ↓] run_fine
set_option maxRecDepth 100000 in
set_option maxHeartbeats 8000000 in
theorem lineorder_law (a : Option Addr) (m cp : Nat) (l : List Rq) (x : Rq) (hm : m = l.length) (w : World) (hB : Line w (.slice a m cp) l) :
    Calls Try.prog 4 #[.slice a m cp, rqV x] w (Says w true) := by
  have hbig : m ≤ 9223372036854775807 := by rw [hm]; exact hB.big
  have HX := Lib.hid (Whole.made w 28 (rqCells x))
  have Hb0 := Lib.hid (below_box w (.cells (rqCells x) 28))
  have HB := Lib.hid hB; clear hB
  have Hm := Lib.hid hm; clear hm
  obtain ⟨t, u, v⟩ := x
  go_enter Try.func4, Try.ntmps4
  go_wp2_with fail
  refine (awake11 _).mono ?_
  rintro e w1 ⟨rfl, hb⟩
  have Hb1 := Lib.hid (held_next Hb0.out hb)
  have HX1 := Lib.hid (HX.out.later hb HX.out.lt)
  have HB1 := Lib.hid (HB.out.later Hb1.out)
  clear hb
  by_cases h100 : 100 < m
  · go_wp2_with fail
    go_ret
    exact ⟨by rfl, Hb1.out⟩
  have h100' : m ≤ 100 := by omega
  have Hlen : Hid (l.length + 1 ≤ 1000000) := by have := Hm.out; show _ ≤ _; omega
  clear h100
  go_wp2_with fail
  refine wp_region_each_at ?hm ?hb (fun a0 d a' w' => ∃ (e0 e1 e2 e3 e4 e5 e6 : Value), a' = putAll a0 [(21, e0), (22, e1), (23, e2), (24, e3), (25, e4), (26, e5), (5, e6)] ∧ Below w1.heap.size w1 w' ∧ (d 0 = true → (d 2 = false → OwnQ w' w1.heap.size e0 [])) ∧ (d 1 = true → e1 = (.slice a m cp)) ∧ (d 2 = true → (d 5 = false → OwnQ w' w1.heap.size e2 l)) ∧ (d 3 = true → e3 = (rqV ⟨t, u, v⟩)) ∧ (d 4 = true → (d 5 = false → OneQ w' (d 0) (d 2) e0 e2 e4 ⟨t, u, v⟩)) ∧ (d 5 = true → d 2 = true ∧ OwnQ w' (w1.heap.size) e5 (l ++ [⟨t, u, v⟩])) ∧ (d 6 = true → d 5 = true ∧ OwnQ w' (w1.heap.size) e6 (l ++ [⟨t, u, v⟩]))) ?h0 ?step ?ends
  case hm => kernel_rfl
  case hb => kernel_rfl
  case h0 =>
    refine ⟨undef, undef, undef, undef, undef, undef, undef, ?_, (Below.refl _ _).drew, fun h => absurd h (by decide), fun h => absurd h (by decide), fun h => absurd h (by decide), fun h => absurd h (by decide), fun h => absurd h (by decide), fun h => absurd h (by decide), fun h => absurd h (by decide)⟩
    simp only [putAll, Act.put, List.setIfInBounds_toArray, List.set_cons_zero, List.set_cons_succ]
  case step =>
    intro i d a' w' hi hJ hd hk
    obtain ⟨e0, e1, e2, e3, e4, e5, e6, rfl, hB, c0, c1, c2, c3, c4, c5, c6⟩ := hJ
    match i, hi, hd, hk with
    | 0, _, hd, hk =>
      have hb := below_box w' (.cells #[] 28)
      have hq0 : OwnQ (w'.alloc (.cells #[] 28)) (w1.heap.size) (.slice (some ⟨w'.heap.size, 0, none⟩) 0 0) [] := own_whole (cs := #[]) (Whole.made w' _ _) hB.size rfl (by decide)
      apply wpOp_at
      case ho => rfl
      intro K hK
      simp only [putAll, Act.put, List.setIfInBounds_toArray, List.set_cons_zero, List.set_cons_succ]
      go_simp
      refine hK _ _ ⟨.slice (some ⟨w'.heap.size, 0, none⟩) 0 0, e1, e2, e3, e4, e5, e6, ?_, hB.trans (hb.mono hB.size), fun _ => fun _ => hq0, c1, fun h h' => ownQ_later (c2 h h') hb, c3, fun h h' => (c4 h h').made0 hb, fun h => ⟨(c5 h).1, ownQ_later (c5 h).2 hb⟩, fun h => ⟨(c6 h).1, ownQ_later (c6 h).2 hb⟩⟩
      simp only [putAll, Act.put, List.setIfInBounds_toArray, List.set_cons_zero, List.set_cons_succ]
    | 1, _, hd, hk =>
      apply wpOp_at
      case ho => rfl
      intro K hK
      simp only [putAll, Act.put, List.setIfInBounds_toArray, List.set_cons_zero, List.set_cons_succ]
      go_simp
      refine hK _ _ ⟨e0, (.slice a m cp), e2, e3, e4, e5, e6, ?_, hB, c0, fun _ => rfl, c2, c3, c4, c5, c6⟩
      simp only [putAll, Act.put, List.setIfInBounds_toArray, List.set_cons_zero, List.set_cons_succ]
    | 2, _, hd, hk =>
      have h0 : d 0 = true := hk 0 (by decide +kernel)
      have h1 : d 1 = true := hk 1 (by decide +kernel)
      obtain rfl := c1 h1
      obtain ⟨v9, w9, hrun9, q9, b9, g9⟩ := run_append_line (c0 h0 hd) (HB1.out.later hB) Hm.out (by have := Hlen.out; simp only [List.length_nil]; omega) hB.size
      rw [List.nil_append] at q9
      obtain ⟨hf9, hv9, hw9⟩ := fine_of hrun9
      clear hrun9
      apply wpOp_at
      case ho => rfl
      intro K hK
      simp only [putAll, Act.put, List.setIfInBounds_toArray, List.set_cons_zero, List.set_cons_succ]
      go_simp
      refine hK _ _ ⟨e0, (.slice a m cp), v9, e3, e4, e5, e6, ?_, hB.trans b9, fun _ h => Bool.noConfusion (show true = false from h), c1, fun _ => fun _ => q9, c3, fun h h' => OneQ.grown (by rw [← hd]; exact c4 h h') h0 g9, fun h => absurd ((c5 h).1.symm.trans hd) (by decide), fun h => absurd ((c5 (c6 h).1).1.symm.trans hd) (by decide)⟩
      simp only [putAll, Act.put, List.setIfInBounds_toArray, List.set_cons_zero, List.set_cons_succ]
    | 3, _, hd, hk =>
      obtain ⟨z0, z1, z2⟩ := rq_cells (HX1.out.later hB HX1.out.lt)
      apply wpOp_at
      case ho => rfl
      intro K hK
      simp only [putAll, Act.put, List.setIfInBounds_toArray, List.set_cons_zero, List.set_cons_succ]
      go_simp
      refine hK _ _ ⟨e0, e1, e2, (rqV ⟨t, u, v⟩), e4, e5, e6, ?_, hB, c0, c1, c2, fun _ => rfl, c4, c5, c6⟩
      simp only [putAll, Act.put, List.setIfInBounds_toArray, List.set_cons_zero, List.set_cons_succ]
    | 4, _, hd, hk =>
      have h3 : d 3 = true := hk 3 (by decide +kernel)
      obtain rfl := c3 h3
      have hb := below_box w' (.cells (rqCells ⟨t, u, v⟩) 28)
      apply wpOp_at
      case ho => rfl
      intro K hK
      simp only [putAll, Act.put, List.setIfInBounds_toArray, List.set_cons_zero, List.set_cons_succ]
      go_simp
      refine hK _ _ ⟨e0, e1, e2, (rqV ⟨t, u, v⟩), .slice (some ⟨w'.heap.size, 0, none⟩) 1 1, e5, e6, ?_, hB.trans (hb.mono hB.size), fun h h' => ownQ_later (c0 h h') hb, c1, fun h h' => ownQ_later (c2 h h') hb, c3, fun _ => fun h5 => OneQ.made (Whole.made w' _ _) (fun h h' => own_past (c0 h h') (Nat.le_refl _)) (fun h => own_past (c2 h h5) (Nat.le_refl _)), fun h => ⟨(c5 h).1, ownQ_later (c5 h).2 hb⟩, fun h => ⟨(c6 h).1, ownQ_later (c6 h).2 hb⟩⟩
      simp only [putAll, Act.put, List.setIfInBounds_toArray, List.set_cons_zero, List.set_cons_succ]
    | 5, _, hd, hk =>
      have h2 : d 2 = true := hk 2 (by decide +kernel)
      have h4 : d 4 = true := hk 4 (by decide +kernel)
      obtain ⟨g4, rfl, hx4⟩ := (c4 h4 hd).line
      obtain ⟨v9, w9, hrun9, q9, b9, g9⟩ := run_append_line (c2 h2 hd) hx4 rfl (by have := Hlen.out; simp only [List.length_singleton]; omega) hB.size
      obtain ⟨hf9, hv9, hw9⟩ := fine_of hrun9
      clear hrun9
      apply wpOp_at
      case ho => rfl
      intro K hK
      simp only [putAll, Act.put, List.setIfInBounds_toArray, List.set_cons_zero, List.set_cons_succ]
      go_simp
      refine hK _ _ ⟨e0, e1, e2, e3, .slice (some ⟨g4, 0, none⟩) 1 1, v9, e6, ?_, hB.trans b9, fun _ h' => absurd (h2.symm.trans h') (by decide), c1, fun _ h => Bool.noConfusion (show true = false from h), c3, fun _ h => Bool.noConfusion (show true = false from h), fun _ => ⟨h2, q9⟩, fun h => absurd ((c6 h).1.symm.trans hd) (by decide)⟩
      simp only [putAll, Act.put, List.setIfInBounds_toArray, List.set_cons_zero, List.set_cons_succ]
    | 6, _, hd, hk =>
      have h0 : d 0 = true := hk 0 (by decide +kernel)
      have h1 : d 1 = true := hk 1 (by decide +kernel)
      have h2 : d 2 = true := hk 2 (by decide +kernel)
      have h3 : d 3 = true := hk 3 (by decide +kernel)
      have h4 : d 4 = true := hk 4 (by decide +kernel)
      have h5 : d 5 = true := hk 5 (by decide +kernel)
      obtain rfl := c1 h1
      obtain rfl := c3 h3
      apply wpOp_at
      case ho => rfl
      intro K hK
      simp only [putAll, Act.put, List.setIfInBounds_toArray, List.set_cons_zero, List.set_cons_succ]
      go_simp
      refine hK _ _ ⟨e0, (.slice a m cp), e2, (rqV ⟨t, u, v⟩), e4, e5, e5, ?_, hB, c0, c1, c2, c3, c4, c5, fun _ => ⟨h5, (c5 h5).2⟩⟩
      simp only [putAll, Act.put, List.setIfInBounds_toArray, List.set_cons_zero, List.set_cons_succ]
    | k + 7, hi, _, _ => exact absurd hi (by simp)
  case ends =>
    intro d a' w2 hJ hall
    obtain ⟨e0, e1, e2, e3, e4, e5, e6, rfl, hB, c0, c1, c2, c3, c4, c5, c6⟩ := hJ
    obtain ⟨A, C, rfl, hl⟩ := (c6 (hall 6 (by decide +kernel))).2.line (by have := Hlen.out; rw [List.length_append, List.length_singleton]; omega)
    have Hb2 := Lib.hid (held_next Hb1.out hB)
    have HX2 := Lib.hid (HX1.out.later hB HX1.out.lt)
    clear c0 c1 c2 c3 c4 c5 c6 hall hB HX1 HB1
    have hl1 : (l ++ [(⟨t, u, v⟩ : Rq)]).length = m + 1 := by rw [List.length_append, List.length_singleton, Hm.out]
    rw [hl1] at hl ⊢
    obtain ⟨L, HL⟩ : ∃ z, Hid (l ++ [(⟨t, u, v⟩ : Rq)] = z) := ⟨_, rfl⟩
    rw [HL.out] at hl hl1
    have Hl1 := Lib.hid hl1
    have Hl := Lib.hid hl
    clear hl hl1
    simp only [putAll, Act.put, List.setIfInBounds_toArray, List.set_cons_zero, List.set_cons_succ]
    obtain ⟨rn0, Hrn0⟩ : ∃ z, Hid (m + 1 = z) := ⟨_, rfl⟩
    rw [Hrn0.out] at Hl ⊢
    go_wp2_with fail
    go_loopw [5, 6] (fun s i wr => ∃ (k rn : Nat) (A : Option Addr) (C : Nat), k ≤ m ∧ s = .slice A rn C ∧ i = .int .i64 k ∧ Hid (rn = m + 1 - k) ∧ Hid (Line wr (.slice A rn C) (L.drop k)) ∧ Hid (Below w2.heap.size w2 wr)) (fun _ i _ => m - (intOf i).toNat)
    case atStart => exact ⟨0, rn0, A, C, Nat.zero_le _, rfl, rfl, Hrn0.out.symm, Hl.out, Below.refl _ _⟩
    case round =>
      obtain ⟨k, rn, A1, C1, hk, rfl, rfl, Hrn, HLk, Hbk⟩ := hrel
      have Hw := Lib.hid (held_next Hb2.out Hbk.out)
      obtain ⟨j, Hj⟩ : ∃ j, Hid (rn - 1 = j) := ⟨_, rfl⟩
      have hrl : rn = (L.drop k).length := by rw [List.length_drop, Hl1.out, Hrn.out]
      have hcap := HLk.out.cap
      have hll := fun w hw => lLeave_calls A1 rn C1 (L.drop k) hrl (by have := Hrn.out; omega) hcap.1 w hw
      unfold LeftQ at hll
      rw [← hrl, Hj.out] at hll
      have hr0 : decide (0 < rn) = true := decide_eq_true (by have := Hrn.out; omega)
      rw [hr0, tail_drop] at hll
      obtain ⟨y, Hy⟩ : ∃ z, Hid (rqAt (L.drop k) 0 = z) := ⟨_, rfl⟩
      rw [Hy.out] at hll
      have Hll := Lib.hid hll
      clear hll hr0 hrl hcap
      obtain ⟨yt, ya, ym⟩ := y
      by_cases hlt : k < m
      · obtain ⟨b, off, rfl, c0, c1, c2⟩ := (HB.out.later Hw.out).at (i := k) (by have := Hm.out; omega)
        have hyl : rqAt l k = ⟨yt, ya, ym⟩ := by rw [← Hy.out, ← HL.out, rqAt_drop l _ (by have := Hm.out; omega)]
        rw [hyl] at c0 c1 c2
        simp only at c0 c1 c2
        clear hyl
        go_wp2_with fail
        refine (Hll.out _ HLk.out).mono ?_
        rintro e w3 ⟨A3, C3, hC3, rfl, hL3, hb⟩
        have hb3 := held_next hb (below_box w3 (.cells (rqCells ⟨yt, ya, ym⟩) 28))
        have HL3 := Lib.hid (hL3.later (below_box w3 (.cells (rqCells ⟨yt, ya, ym⟩) 28)))
        have Hb3 := Lib.hid (held_next Hbk.out hb3)
        have HY3 := Lib.hid (Whole.made w3 28 (rqCells ⟨yt, ya, ym⟩))
        replace c0 := cell_later hb3 c0
        replace c1 := cell_later hb3 c1
        replace c2 := cell_later hb3 c2
        obtain ⟨f0, f1, f2⟩ := rq_cells HY3.out
        simp only at f0 f1 f2
        have hne := fun w => run_neq_same w ⟨yt, ya, ym⟩
        have kj : (m : Int) - (k : Int) = (j : Int) := by have := Hj.out; have := Hrn.out; omega
        have kw : IntKind.i64.wrap ((m : Int) - (k : Int)) = (j : Int) := by rw [kj]; exact IntWalk.i64_in _ (by omega)
        have Kj := Lib.hid kj
        have k0 : (0 : Int) ≤ (k : Int) := by omega
        have k1 : (k : Int) < (m : Int) := by omega
        clear hb hb3 hL3 kj
        go_wp2_with fail
        go_region
        all_goals go_wp2_with fail
        go_roundw
        case rel => exact ⟨k + 1, j, A3, C3, by omega, rfl, by go_num, (show _ = _ by have := Hj.out; have := Hrn.out; omega), HL3.out.later ((Below.refl _ _).drew), Hb3.out.drew⟩
        case measure => simp [intOf]; omega
      · have hkm : k = m := by omega
        have Hkm := Lib.hid hkm
        have hj0 : j = 0 := by have := Hj.out; have := Hrn.out; omega
        have hxy : (⟨yt, ya, ym⟩ : Rq) = ⟨t, u, v⟩ := by rw [← Hy.out, ← HL.out, hkm, Hm.out, rqAt_end]
        injection hxy with e1 e2 e3
        subst e1 e2 e3
        subst hj0
        clear hkm
        go_wp2_with fail
        refine (Hll.out _ HLk.out).mono ?_
        rintro e w3 ⟨A3, C3, hC3, rfl, hL3, hb⟩
        have hb3 := held_next hb (below_box w3 (.cells (rqCells ⟨yt, ya, ym⟩) 28))
        have hdr : L.drop (k + 1) = [] := List.drop_of_length_le (by rw [Hl1.out]; have := Hkm.out; omega)
        rw [hdr] at hL3
        have HL3 := Lib.hid (hL3.later (below_box w3 (.cells (rqCells ⟨yt, ya, ym⟩) 28)))
        have Hb3 := Lib.hid (held_next Hw.out hb3)
        have HY3 := Lib.hid (Whole.made w3 28 (rqCells ⟨yt, ya, ym⟩))
        have HX3 := Lib.hid (HX2.out.later (held_next Hbk.out hb3) HX2.out.lt)
        clear hb hb3 hL3 hdr
        go_wp2_with fail
        refine (lLeave_calls A3 0 C3 [] rfl (by decide) (Nat.zero_le _) _ HL3.out).mono ?_
        rintro e w4 ⟨A4, C4, _, rfl, _, hb⟩
        have hb4 := held_next hb (below_box w4 (.cells (rqCells ⟨0, 0, 0⟩) 28))
        have Hb4 := Lib.hid (held_next Hb3.out hb4)
        have HY4 := Lib.hid (HY3.out.later hb4 HY3.out.lt)
        have HX4 := Lib.hid (HX3.out.later hb4 HX3.out.lt)
        have HZ4 := Lib.hid (Whole.made w4 28 (rqCells ⟨0, 0, 0⟩))
        have e0 : rqAt [] 0 = ⟨0, 0, 0⟩ := rfl
        rw [e0]
        clear hb hb4
        obtain ⟨f0, f1, f2⟩ := rq_cells HY4.out
        obtain ⟨g0, g1, g2⟩ := rq_cells HX4.out
        obtain ⟨z0, z1, z2⟩ := rq_cells HZ4.out
        simp only at f0 f1 f2 g0 g1 g2 z0 z1 z2
        have hq1 := fun w => run_eql_rq w ⟨yt, ya, ym⟩
        have hq2 := fun w => run_eql_rq w ⟨0, 0, 0⟩
        simp only [List.length_nil]
        go_wp2_with fail
        go_ret
        exact ⟨by simp, Hb4.out⟩
end Go.Proofs.Ytefekkfocogghaa
