/- RowOrder, walked: six rows joined, three times held against each other. -/
import Derived.Test.YtbghdanagahbnaaRowLaws
namespace Go.Proofs.Ytbghdanagahbnaa
open Go.RowKit

theorem joinL_comm {la lb : List Int} (h : la.length = lb.length) : joinL la lb = joinL lb la :=
  list_same (by rw [joinL_length h, joinL_length h.symm, h]) fun k hk => by
    rw [joinL_length h] at hk
    rw [joinL_at h hk, joinL_at h.symm (by omega)]; omega
theorem joinL_assoc {la lb lc : List Int} (h : la.length = lb.length) (h2 : lb.length = lc.length) : joinL (joinL la lb) lc = joinL la (joinL lb lc) := by
  have e1 := joinL_length h
  have e2 := joinL_length h2
  refine list_same (by rw [joinL_length (la := joinL la lb) (by omega), e1, joinL_length (la := la) (lb := joinL lb lc) (by omega)]) fun k hk => ?_
  rw [joinL_length (by omega), e1] at hk
  rw [joinL_at (by omega) (by omega), joinL_at h hk, joinL_at (by omega) hk, joinL_at h2 (by omega)]; omega
theorem joinL_self (la : List Int) : joinL la la = la :=
  list_same (joinL_length rfl) fun k hk => by
    rw [joinL_length rfl] at hk
    rw [joinL_at rfl hk]; omega

set_option maxRecDepth 100000 in
set_option maxHeartbeats 8000000 in
theorem order_law (W : World) (i u : Int) (a : Option Addr) (n c : Nat) (la : List Int) (j v : Int) (b : Option Addr) (m d : Nat) (lb : List Int) (p q : Int) (e : Option Addr) (k f : Nat) (lc : List Int)
    (hn : n = la.length) (hm : m = lb.length) (hk : k = lc.length) (hA : Nums W (.slice a n c) la) (hB : Nums W (.slice b m d) lb) (hC : Nums W (.slice e k f) lc) :
    Calls Try.prog 4 #[rowV i u (.slice a n c), rowV j v (.slice b m d), rowV p q (.slice e k f)] W (Says W true) := by
  have hbn : n ≤ 9223372036854775807 := by rw [hn]; exact hA.1
  have hbm : m ≤ 9223372036854775807 := by rw [hm]; exact hB.1
  have hbk : k ≤ 9223372036854775807 := by rw [hk]; exact hC.1
  have HA := Lib.hid hA; clear hA
  have HB := Lib.hid hB; clear hB
  have HC := Lib.hid hC; clear hC
  have Hn := Lib.hid hn; clear hn
  have Hm := Lib.hid hm; clear hm
  have Hk := Lib.hid hk; clear hk
  obtain ⟨w0, Hw0⟩ : ∃ w0, Hid (three W i u a n c j v b m d p q e k f = w0) := ⟨_, rfl⟩
  have HWa0 : Hid (Whole w0 W.heap.size 24 #[.int .i64 i, .int .i64 u, .slice a n c]) := by rw [← Hw0.out]; exact three_a ..
  have HWb0 : Hid (Whole w0 (W.heap.size + 1) 24 #[.int .i64 j, .int .i64 v, .slice b m d]) := by rw [← Hw0.out]; exact three_b ..
  have HWc0 : Hid (Whole w0 (W.heap.size + 1 + 1) 24 #[.int .i64 p, .int .i64 q, .slice e k f]) := by rw [← Hw0.out]; exact three_c ..
  have Hb0 : Hid (Below W.heap.size W w0) := by rw [← Hw0.out]; exact three_below ..
  go_enter Try.func4, Try.ntmps4
  go_wp2_with fail
  have hw0 := Hw0.out
  unfold three at hw0
  rw [hw0]
  clear hw0 Hw0
  refine (awake_calls _).mono ?_
  rintro ee w1 ⟨rfl, hb⟩
  have Hb1 := Lib.hid (held_next Hb0.out hb)
  have HWa1 := Lib.hid (HWa0.out.later hb HWa0.out.lt)
  have HWb1 := Lib.hid (HWb0.out.later hb HWb0.out.lt)
  have HWc1 := Lib.hid (HWc0.out.later hb HWc0.out.lt)
  clear hb HWa0 HWb0 HWc0 Hb0
  obtain ⟨a0, a1, a2⟩ := row_cells HWa1.out
  obtain ⟨b0, b1, b2⟩ := row_cells HWb1.out
  obtain ⟨c0, c1, c2⟩ := row_cells HWc1.out
  have hla := HWa1.out.lt
  have hlb := HWb1.out.lt
  have hlc := HWc1.out.lt
  by_cases h1 : 100 < n
  · go_wp2_with fail
    go_ret
    exact ⟨rfl, Hb1.out⟩
  by_cases h2 : m ≠ n
  · have h2' : ((m : Int) != (n : Int)) = true := by simp; omega
    go_wp2_with fail
    go_ret
    exact ⟨rfl, Hb1.out⟩
  have h2e : m = n := by omega
  clear h2
  subst h2e
  by_cases h3 : k ≠ m
  · have h3' : ((k : Int) != (m : Int)) = true := by simp; omega
    go_wp2_with fail
    go_ret
    exact ⟨rfl, Hb1.out⟩
  have h3e : k = m := by omega
  clear h3
  subst h3e
  have e1 : la.length = lb.length := by rw [← Hn.out, ← Hm.out]
  have e2 : lb.length = lc.length := by rw [← Hm.out, ← Hk.out]
  have Hs1 := Lib.hid (same_of (i := max i j) (u := max u v) (j := max j i) (v := max v u) (la := joinL la lb) (lb := joinL lb la) (by omega) (by omega) (joinL_comm e1))
  have Hs2 := Lib.hid (same_of (i := max (max i j) p) (u := max (max u v) q) (j := max i (max j p)) (v := max u (max v q)) (la := joinL (joinL la lb) lc) (lb := joinL la (joinL lb lc)) (by omega) (by omega) (joinL_assoc e1 e2))
  have Hs3 := Lib.hid (same_of (i := max i i) (u := max u u) (j := i) (v := u) (la := joinL la la) (lb := la) (by omega) (by omega) (joinL_self la))
  have El1 := Lib.hid (show k = (joinL la lb).length by rw [joinL_length e1]; exact Hn.out)
  have El2 := Lib.hid (show k = (joinL lb la).length by rw [joinL_length e1.symm]; exact Hm.out)
  have El3 := Lib.hid (show k = (joinL lb lc).length by rw [joinL_length e2]; exact Hm.out)
  have El4 := Lib.hid (show k = (joinL (joinL la lb) lc).length by rw [joinL_length (by rw [← El1.out]; exact Hk.out)]; exact El1.out)
  have El5 := Lib.hid (show k = (joinL la (joinL lb lc)).length by rw [joinL_length (by rw [← El3.out]; exact Hn.out.symm)]; exact Hn.out)
  have El6 := Lib.hid (show k = (joinL la la).length by rw [joinL_length rfl]; exact Hn.out)
  clear e1 e2
  clear a0 a1 a2 b0 b1 b2 c0 c1 c2 hla hlb hlc
  obtain ⟨I1, HI1⟩ : ∃ z, Hid (max i j = z) := ⟨_, rfl⟩
  obtain ⟨U1, HU1⟩ : ∃ z, Hid (max u v = z) := ⟨_, rfl⟩
  obtain ⟨L1, HL1⟩ : ∃ z, Hid (joinL la lb = z) := ⟨_, rfl⟩
  rw [HI1.out, HU1.out, HL1.out] at Hs1
  rw [HI1.out, HU1.out, HL1.out] at Hs2
  rw [HL1.out] at El1
  rw [HL1.out] at El4
  obtain ⟨a0, a1, a2⟩ := row_cells HWa1.out
  have hla := HWa1.out.lt
  obtain ⟨b0, b1, b2⟩ := row_cells HWb1.out
  have hlb := HWb1.out.lt
  obtain ⟨c0, c1, c2⟩ := row_cells HWc1.out
  have hlc := HWc1.out.lt
  go_wp2_with fail
  refine (join_loop a k c b d i u j v la lb Hn.out Hm.out _ (HA.out.later Hb1.out) (HB.out.later Hb1.out) (by omega)).mono ?_
  rw [HI1.out, HU1.out, HL1.out]
  rintro ee w2 ⟨A1, C1, rfl, hN, hb⟩
  have HB2 := Lib.hid (held_next Hb1.out hb)
  have HQ2 := Lib.hid (HB2.out.alloc HB2.out.size (.cells #[.int .i64 I1, .int .i64 U1, .slice A1 k C1] 24))
  have HWa2 := Lib.hid ((HWa1.out.later hb HWa1.out.lt).alloc (.cells #[.int .i64 I1, .int .i64 U1, .slice A1 k C1] 24))
  have HWb2 := Lib.hid ((HWb1.out.later hb HWb1.out.lt).alloc (.cells #[.int .i64 I1, .int .i64 U1, .slice A1 k C1] 24))
  have HWc2 := Lib.hid ((HWc1.out.later hb HWc1.out.lt).alloc (.cells #[.int .i64 I1, .int .i64 U1, .slice A1 k C1] 24))
  have HWr12 := Lib.hid (Whole.made w2 24 #[.int .i64 I1, .int .i64 U1, .slice A1 k C1])
  have HMr12 := Lib.hid (hN.later (below_box w2 (.cells #[.int .i64 I1, .int .i64 U1, .slice A1 k C1] 24)))
  clear hb hN HB2 HWa1 HWb1 HWc1 a0 a1 a2 b0 b1 b2 c0 c1 c2 hla hlb hlc Hb1
  obtain ⟨I2, HI2⟩ : ∃ z, Hid (max j i = z) := ⟨_, rfl⟩
  obtain ⟨U2, HU2⟩ : ∃ z, Hid (max v u = z) := ⟨_, rfl⟩
  obtain ⟨L2, HL2⟩ : ∃ z, Hid (joinL lb la = z) := ⟨_, rfl⟩
  rw [HI2.out, HU2.out, HL2.out] at Hs1
  rw [HL2.out] at El2
  obtain ⟨a0, a1, a2⟩ := row_cells HWa2.out
  have hla := HWa2.out.lt
  obtain ⟨b0, b1, b2⟩ := row_cells HWb2.out
  have hlb := HWb2.out.lt
  go_wp2_with fail
  refine (join_loop b k d a c j v i u lb la Hm.out Hn.out _ (HB.out.later HQ2.out) (HA.out.later HQ2.out) (by omega)).mono ?_
  rw [HI2.out, HU2.out, HL2.out]
  rintro ee w3 ⟨A2, C2, rfl, hN, hb⟩
  have HB3 := Lib.hid (held_next HQ2.out hb)
  have HQ3 := Lib.hid (HB3.out.alloc HB3.out.size (.cells #[.int .i64 I2, .int .i64 U2, .slice A2 k C2] 24))
  have HWa3 := Lib.hid ((HWa2.out.later hb HWa2.out.lt).alloc (.cells #[.int .i64 I2, .int .i64 U2, .slice A2 k C2] 24))
  have HWb3 := Lib.hid ((HWb2.out.later hb HWb2.out.lt).alloc (.cells #[.int .i64 I2, .int .i64 U2, .slice A2 k C2] 24))
  have HWc3 := Lib.hid ((HWc2.out.later hb HWc2.out.lt).alloc (.cells #[.int .i64 I2, .int .i64 U2, .slice A2 k C2] 24))
  have HWr13 := Lib.hid ((HWr12.out.later hb HWr12.out.lt).alloc (.cells #[.int .i64 I2, .int .i64 U2, .slice A2 k C2] 24))
  have HWr23 := Lib.hid (Whole.made w3 24 #[.int .i64 I2, .int .i64 U2, .slice A2 k C2])
  have HMr13 := Lib.hid ((HMr12.out.later hb).later (below_box w3 (.cells #[.int .i64 I2, .int .i64 U2, .slice A2 k C2] 24)))
  have HMr23 := Lib.hid (hN.later (below_box w3 (.cells #[.int .i64 I2, .int .i64 U2, .slice A2 k C2] 24)))
  clear hb hN HB3 HWa2 HWb2 HWc2 HWr12 HMr12 a0 a1 a2 b0 b1 b2 hla hlb HQ2
  obtain ⟨I3, HI3⟩ : ∃ z, Hid (max j p = z) := ⟨_, rfl⟩
  obtain ⟨U3, HU3⟩ : ∃ z, Hid (max v q = z) := ⟨_, rfl⟩
  obtain ⟨L3, HL3⟩ : ∃ z, Hid (joinL lb lc = z) := ⟨_, rfl⟩
  rw [HI3.out, HU3.out, HL3.out] at Hs2
  rw [HL3.out] at El3
  rw [HL3.out] at El5
  obtain ⟨b0, b1, b2⟩ := row_cells HWb3.out
  have hlb := HWb3.out.lt
  obtain ⟨c0, c1, c2⟩ := row_cells HWc3.out
  have hlc := HWc3.out.lt
  go_wp2_with fail
  refine (join_loop b k d e f j v p q lb lc Hm.out Hk.out _ (HB.out.later HQ3.out) (HC.out.later HQ3.out) (by omega)).mono ?_
  rw [HI3.out, HU3.out, HL3.out]
  rintro ee w4 ⟨A3, C3, rfl, hN, hb⟩
  have HB4 := Lib.hid (held_next HQ3.out hb)
  have HQ4 := Lib.hid (HB4.out.alloc HB4.out.size (.cells #[.int .i64 I3, .int .i64 U3, .slice A3 k C3] 24))
  have HWa4 := Lib.hid ((HWa3.out.later hb HWa3.out.lt).alloc (.cells #[.int .i64 I3, .int .i64 U3, .slice A3 k C3] 24))
  have HWb4 := Lib.hid ((HWb3.out.later hb HWb3.out.lt).alloc (.cells #[.int .i64 I3, .int .i64 U3, .slice A3 k C3] 24))
  have HWc4 := Lib.hid ((HWc3.out.later hb HWc3.out.lt).alloc (.cells #[.int .i64 I3, .int .i64 U3, .slice A3 k C3] 24))
  have HWr14 := Lib.hid ((HWr13.out.later hb HWr13.out.lt).alloc (.cells #[.int .i64 I3, .int .i64 U3, .slice A3 k C3] 24))
  have HWr24 := Lib.hid ((HWr23.out.later hb HWr23.out.lt).alloc (.cells #[.int .i64 I3, .int .i64 U3, .slice A3 k C3] 24))
  have HWr34 := Lib.hid (Whole.made w4 24 #[.int .i64 I3, .int .i64 U3, .slice A3 k C3])
  have HMr14 := Lib.hid ((HMr13.out.later hb).later (below_box w4 (.cells #[.int .i64 I3, .int .i64 U3, .slice A3 k C3] 24)))
  have HMr24 := Lib.hid ((HMr23.out.later hb).later (below_box w4 (.cells #[.int .i64 I3, .int .i64 U3, .slice A3 k C3] 24)))
  have HMr34 := Lib.hid (hN.later (below_box w4 (.cells #[.int .i64 I3, .int .i64 U3, .slice A3 k C3] 24)))
  clear hb hN HB4 HWa3 HWb3 HWc3 HWr13 HWr23 HMr13 HMr23 b0 b1 b2 c0 c1 c2 hlb hlc HQ3
  obtain ⟨I4, HI4⟩ : ∃ z, Hid (max I1 p = z) := ⟨_, rfl⟩
  obtain ⟨U4, HU4⟩ : ∃ z, Hid (max U1 q = z) := ⟨_, rfl⟩
  obtain ⟨L4, HL4⟩ : ∃ z, Hid (joinL L1 lc = z) := ⟨_, rfl⟩
  rw [HI4.out, HU4.out, HL4.out] at Hs2
  rw [HL4.out] at El4
  obtain ⟨c0, c1, c2⟩ := row_cells HWc4.out
  have hlc := HWc4.out.lt
  obtain ⟨r10, r11, r12⟩ := row_cells HWr14.out
  have hlr1 := HWr14.out.lt
  go_wp2_with fail
  refine (join_loop A1 k C1 e f I1 U1 p q L1 lc El1.out Hk.out _ HMr14.out (HC.out.later HQ4.out) (by omega)).mono ?_
  rw [HI4.out, HU4.out, HL4.out]
  rintro ee w5 ⟨A4, C4, rfl, hN, hb⟩
  have HB5 := Lib.hid (held_next HQ4.out hb)
  have HQ5 := Lib.hid (HB5.out.alloc HB5.out.size (.cells #[.int .i64 I4, .int .i64 U4, .slice A4 k C4] 24))
  have HWa5 := Lib.hid ((HWa4.out.later hb HWa4.out.lt).alloc (.cells #[.int .i64 I4, .int .i64 U4, .slice A4 k C4] 24))
  have HWb5 := Lib.hid ((HWb4.out.later hb HWb4.out.lt).alloc (.cells #[.int .i64 I4, .int .i64 U4, .slice A4 k C4] 24))
  have HWc5 := Lib.hid ((HWc4.out.later hb HWc4.out.lt).alloc (.cells #[.int .i64 I4, .int .i64 U4, .slice A4 k C4] 24))
  have HWr15 := Lib.hid ((HWr14.out.later hb HWr14.out.lt).alloc (.cells #[.int .i64 I4, .int .i64 U4, .slice A4 k C4] 24))
  have HWr25 := Lib.hid ((HWr24.out.later hb HWr24.out.lt).alloc (.cells #[.int .i64 I4, .int .i64 U4, .slice A4 k C4] 24))
  have HWr35 := Lib.hid ((HWr34.out.later hb HWr34.out.lt).alloc (.cells #[.int .i64 I4, .int .i64 U4, .slice A4 k C4] 24))
  have HWr45 := Lib.hid (Whole.made w5 24 #[.int .i64 I4, .int .i64 U4, .slice A4 k C4])
  have HMr15 := Lib.hid ((HMr14.out.later hb).later (below_box w5 (.cells #[.int .i64 I4, .int .i64 U4, .slice A4 k C4] 24)))
  have HMr25 := Lib.hid ((HMr24.out.later hb).later (below_box w5 (.cells #[.int .i64 I4, .int .i64 U4, .slice A4 k C4] 24)))
  have HMr35 := Lib.hid ((HMr34.out.later hb).later (below_box w5 (.cells #[.int .i64 I4, .int .i64 U4, .slice A4 k C4] 24)))
  have HMr45 := Lib.hid (hN.later (below_box w5 (.cells #[.int .i64 I4, .int .i64 U4, .slice A4 k C4] 24)))
  clear hb hN HB5 HWa4 HWb4 HWc4 HWr14 HWr24 HWr34 HMr14 HMr24 HMr34 c0 c1 c2 r10 r11 r12 hlc hlr1 HQ4
  obtain ⟨I5, HI5⟩ : ∃ z, Hid (max i I3 = z) := ⟨_, rfl⟩
  obtain ⟨U5, HU5⟩ : ∃ z, Hid (max u U3 = z) := ⟨_, rfl⟩
  obtain ⟨L5, HL5⟩ : ∃ z, Hid (joinL la L3 = z) := ⟨_, rfl⟩
  rw [HI5.out, HU5.out, HL5.out] at Hs2
  rw [HL5.out] at El5
  obtain ⟨a0, a1, a2⟩ := row_cells HWa5.out
  have hla := HWa5.out.lt
  obtain ⟨r30, r31, r32⟩ := row_cells HWr35.out
  have hlr3 := HWr35.out.lt
  go_wp2_with fail
  refine (join_loop a k c A3 C3 i u I3 U3 la L3 Hn.out El3.out _ (HA.out.later HQ5.out) HMr35.out (by omega)).mono ?_
  rw [HI5.out, HU5.out, HL5.out]
  rintro ee w6 ⟨A5, C5, rfl, hN, hb⟩
  have HB6 := Lib.hid (held_next HQ5.out hb)
  have HQ6 := Lib.hid (HB6.out.alloc HB6.out.size (.cells #[.int .i64 I5, .int .i64 U5, .slice A5 k C5] 24))
  have HWa6 := Lib.hid ((HWa5.out.later hb HWa5.out.lt).alloc (.cells #[.int .i64 I5, .int .i64 U5, .slice A5 k C5] 24))
  have HWb6 := Lib.hid ((HWb5.out.later hb HWb5.out.lt).alloc (.cells #[.int .i64 I5, .int .i64 U5, .slice A5 k C5] 24))
  have HWc6 := Lib.hid ((HWc5.out.later hb HWc5.out.lt).alloc (.cells #[.int .i64 I5, .int .i64 U5, .slice A5 k C5] 24))
  have HWr16 := Lib.hid ((HWr15.out.later hb HWr15.out.lt).alloc (.cells #[.int .i64 I5, .int .i64 U5, .slice A5 k C5] 24))
  have HWr26 := Lib.hid ((HWr25.out.later hb HWr25.out.lt).alloc (.cells #[.int .i64 I5, .int .i64 U5, .slice A5 k C5] 24))
  have HWr36 := Lib.hid ((HWr35.out.later hb HWr35.out.lt).alloc (.cells #[.int .i64 I5, .int .i64 U5, .slice A5 k C5] 24))
  have HWr46 := Lib.hid ((HWr45.out.later hb HWr45.out.lt).alloc (.cells #[.int .i64 I5, .int .i64 U5, .slice A5 k C5] 24))
  have HWr56 := Lib.hid (Whole.made w6 24 #[.int .i64 I5, .int .i64 U5, .slice A5 k C5])
  have HMr16 := Lib.hid ((HMr15.out.later hb).later (below_box w6 (.cells #[.int .i64 I5, .int .i64 U5, .slice A5 k C5] 24)))
  have HMr26 := Lib.hid ((HMr25.out.later hb).later (below_box w6 (.cells #[.int .i64 I5, .int .i64 U5, .slice A5 k C5] 24)))
  have HMr36 := Lib.hid ((HMr35.out.later hb).later (below_box w6 (.cells #[.int .i64 I5, .int .i64 U5, .slice A5 k C5] 24)))
  have HMr46 := Lib.hid ((HMr45.out.later hb).later (below_box w6 (.cells #[.int .i64 I5, .int .i64 U5, .slice A5 k C5] 24)))
  have HMr56 := Lib.hid (hN.later (below_box w6 (.cells #[.int .i64 I5, .int .i64 U5, .slice A5 k C5] 24)))
  clear hb hN HB6 HWa5 HWb5 HWc5 HWr15 HWr25 HWr35 HWr45 HMr15 HMr25 HMr35 HMr45 a0 a1 a2 r30 r31 r32 hla hlr3 HQ5
  obtain ⟨I6, HI6⟩ : ∃ z, Hid (max i i = z) := ⟨_, rfl⟩
  obtain ⟨U6, HU6⟩ : ∃ z, Hid (max u u = z) := ⟨_, rfl⟩
  obtain ⟨L6, HL6⟩ : ∃ z, Hid (joinL la la = z) := ⟨_, rfl⟩
  rw [HI6.out, HU6.out, HL6.out] at Hs3
  rw [HL6.out] at El6
  obtain ⟨a0, a1, a2⟩ := row_cells HWa6.out
  have hla := HWa6.out.lt
  go_wp2_with fail
  refine (join_loop a k c a c i u i u la la Hn.out Hn.out _ (HA.out.later HQ6.out) (HA.out.later HQ6.out) (by omega)).mono ?_
  rw [HI6.out, HU6.out, HL6.out]
  rintro ee w7 ⟨A6, C6, rfl, hN, hb⟩
  have HB7 := Lib.hid (held_next HQ6.out hb)
  have HQ7 := Lib.hid (HB7.out.alloc HB7.out.size (.cells #[.int .i64 I6, .int .i64 U6, .slice A6 k C6] 24))
  have HWa7 := Lib.hid ((HWa6.out.later hb HWa6.out.lt).alloc (.cells #[.int .i64 I6, .int .i64 U6, .slice A6 k C6] 24))
  have HWb7 := Lib.hid ((HWb6.out.later hb HWb6.out.lt).alloc (.cells #[.int .i64 I6, .int .i64 U6, .slice A6 k C6] 24))
  have HWc7 := Lib.hid ((HWc6.out.later hb HWc6.out.lt).alloc (.cells #[.int .i64 I6, .int .i64 U6, .slice A6 k C6] 24))
  have HWr17 := Lib.hid ((HWr16.out.later hb HWr16.out.lt).alloc (.cells #[.int .i64 I6, .int .i64 U6, .slice A6 k C6] 24))
  have HWr27 := Lib.hid ((HWr26.out.later hb HWr26.out.lt).alloc (.cells #[.int .i64 I6, .int .i64 U6, .slice A6 k C6] 24))
  have HWr37 := Lib.hid ((HWr36.out.later hb HWr36.out.lt).alloc (.cells #[.int .i64 I6, .int .i64 U6, .slice A6 k C6] 24))
  have HWr47 := Lib.hid ((HWr46.out.later hb HWr46.out.lt).alloc (.cells #[.int .i64 I6, .int .i64 U6, .slice A6 k C6] 24))
  have HWr57 := Lib.hid ((HWr56.out.later hb HWr56.out.lt).alloc (.cells #[.int .i64 I6, .int .i64 U6, .slice A6 k C6] 24))
  have HWr67 := Lib.hid (Whole.made w7 24 #[.int .i64 I6, .int .i64 U6, .slice A6 k C6])
  have HMr17 := Lib.hid ((HMr16.out.later hb).later (below_box w7 (.cells #[.int .i64 I6, .int .i64 U6, .slice A6 k C6] 24)))
  have HMr27 := Lib.hid ((HMr26.out.later hb).later (below_box w7 (.cells #[.int .i64 I6, .int .i64 U6, .slice A6 k C6] 24)))
  have HMr37 := Lib.hid ((HMr36.out.later hb).later (below_box w7 (.cells #[.int .i64 I6, .int .i64 U6, .slice A6 k C6] 24)))
  have HMr47 := Lib.hid ((HMr46.out.later hb).later (below_box w7 (.cells #[.int .i64 I6, .int .i64 U6, .slice A6 k C6] 24)))
  have HMr57 := Lib.hid ((HMr56.out.later hb).later (below_box w7 (.cells #[.int .i64 I6, .int .i64 U6, .slice A6 k C6] 24)))
  have HMr67 := Lib.hid (hN.later (below_box w7 (.cells #[.int .i64 I6, .int .i64 U6, .slice A6 k C6] 24)))
  clear hb hN HB7 HWa6 HWb6 HWc6 HWr16 HWr26 HWr36 HWr46 HWr56 HMr16 HMr26 HMr36 HMr46 HMr56 a0 a1 a2 hla HQ6
  obtain ⟨r10, r11, r12⟩ := row_cells HWr17.out
  obtain ⟨r20, r21, r22⟩ := row_cells HWr27.out
  go_wp2_with fail
  refine (refsame_calls A1 k C1 A2 k C2 I1 U1 I2 U2 L1 L2 El1.out El2.out _ HMr17.out HMr27.out).mono ?_
  rintro ee w8 ⟨rfl, hb⟩
  rw [Hs1.out]
  have HQ8 := Lib.hid (held_next HQ7.out hb)
  have HWa8 := Lib.hid (HWa7.out.later hb HWa7.out.lt)
  have HWb8 := Lib.hid (HWb7.out.later hb HWb7.out.lt)
  have HWc8 := Lib.hid (HWc7.out.later hb HWc7.out.lt)
  have HWr18 := Lib.hid (HWr17.out.later hb HWr17.out.lt)
  have HWr28 := Lib.hid (HWr27.out.later hb HWr27.out.lt)
  have HWr38 := Lib.hid (HWr37.out.later hb HWr37.out.lt)
  have HWr48 := Lib.hid (HWr47.out.later hb HWr47.out.lt)
  have HWr58 := Lib.hid (HWr57.out.later hb HWr57.out.lt)
  have HWr68 := Lib.hid (HWr67.out.later hb HWr67.out.lt)
  have HMr18 := Lib.hid (HMr17.out.later hb)
  have HMr28 := Lib.hid (HMr27.out.later hb)
  have HMr38 := Lib.hid (HMr37.out.later hb)
  have HMr48 := Lib.hid (HMr47.out.later hb)
  have HMr58 := Lib.hid (HMr57.out.later hb)
  have HMr68 := Lib.hid (HMr67.out.later hb)
  clear hb HWa7 HWb7 HWc7 HWr17 HWr27 HWr37 HWr47 HWr57 HWr67 HMr17 HMr27 HMr37 HMr47 HMr57 HMr67 r10 r11 r12 r20 r21 r22
  obtain ⟨r40, r41, r42⟩ := row_cells HWr48.out
  obtain ⟨r50, r51, r52⟩ := row_cells HWr58.out
  go_wp2_with fail
  refine (refsame_calls A4 k C4 A5 k C5 I4 U4 I5 U5 L4 L5 El4.out El5.out _ HMr48.out HMr58.out).mono ?_
  rintro ee w9 ⟨rfl, hb⟩
  rw [Hs2.out]
  have HQ9 := Lib.hid (held_next HQ8.out hb)
  have HWa9 := Lib.hid (HWa8.out.later hb HWa8.out.lt)
  have HWb9 := Lib.hid (HWb8.out.later hb HWb8.out.lt)
  have HWc9 := Lib.hid (HWc8.out.later hb HWc8.out.lt)
  have HWr19 := Lib.hid (HWr18.out.later hb HWr18.out.lt)
  have HWr29 := Lib.hid (HWr28.out.later hb HWr28.out.lt)
  have HWr39 := Lib.hid (HWr38.out.later hb HWr38.out.lt)
  have HWr49 := Lib.hid (HWr48.out.later hb HWr48.out.lt)
  have HWr59 := Lib.hid (HWr58.out.later hb HWr58.out.lt)
  have HWr69 := Lib.hid (HWr68.out.later hb HWr68.out.lt)
  have HMr19 := Lib.hid (HMr18.out.later hb)
  have HMr29 := Lib.hid (HMr28.out.later hb)
  have HMr39 := Lib.hid (HMr38.out.later hb)
  have HMr49 := Lib.hid (HMr48.out.later hb)
  have HMr59 := Lib.hid (HMr58.out.later hb)
  have HMr69 := Lib.hid (HMr68.out.later hb)
  clear hb HWa8 HWb8 HWc8 HWr18 HWr28 HWr38 HWr48 HWr58 HWr68 HMr18 HMr28 HMr38 HMr48 HMr58 HMr68 r40 r41 r42 r50 r51 r52
  obtain ⟨r60, r61, r62⟩ := row_cells HWr69.out
  obtain ⟨a0, a1, a2⟩ := row_cells HWa9.out
  go_wp2_with fail
  refine (refsame_calls A6 k C6 a k c I6 U6 i u L6 la El6.out Hn.out _ HMr69.out (HA.out.later HQ9.out)).mono ?_
  rintro ee w10 ⟨rfl, hb⟩
  rw [Hs3.out]
  have HQ10 := Lib.hid (held_next HQ9.out hb)
  have HWa10 := Lib.hid (HWa9.out.later hb HWa9.out.lt)
  have HWb10 := Lib.hid (HWb9.out.later hb HWb9.out.lt)
  have HWc10 := Lib.hid (HWc9.out.later hb HWc9.out.lt)
  have HWr110 := Lib.hid (HWr19.out.later hb HWr19.out.lt)
  have HWr210 := Lib.hid (HWr29.out.later hb HWr29.out.lt)
  have HWr310 := Lib.hid (HWr39.out.later hb HWr39.out.lt)
  have HWr410 := Lib.hid (HWr49.out.later hb HWr49.out.lt)
  have HWr510 := Lib.hid (HWr59.out.later hb HWr59.out.lt)
  have HWr610 := Lib.hid (HWr69.out.later hb HWr69.out.lt)
  have HMr110 := Lib.hid (HMr19.out.later hb)
  have HMr210 := Lib.hid (HMr29.out.later hb)
  have HMr310 := Lib.hid (HMr39.out.later hb)
  have HMr410 := Lib.hid (HMr49.out.later hb)
  have HMr510 := Lib.hid (HMr59.out.later hb)
  have HMr610 := Lib.hid (HMr69.out.later hb)
  clear hb HWa9 HWb9 HWc9 HWr19 HWr29 HWr39 HWr49 HWr59 HWr69 HMr19 HMr29 HMr39 HMr49 HMr59 HMr69 r60 r61 r62 a0 a1 a2
  go_wp2_with fail
  go_ret
  exact ⟨by simp, HQ10.out⟩
end Go.Proofs.Ytbghdanagahbnaa
