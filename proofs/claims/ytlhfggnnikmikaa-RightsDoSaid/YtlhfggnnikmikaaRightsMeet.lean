/- RightsMeet, walked. -/
import Derived.Test.YtlhfggnnikmikaaRightsAwake
import Derived.Test.YtlhfggnnikmikaaRefRightsSame
import Derived.Test.YtlhfggnnikmikaaRightsMath
namespace Go.Proofs.Ytlhfggnnikmikaa
open Go.RowKit

set_option maxRecDepth 100000 in
set_option maxHeartbeats 8000000 in
theorem rightsmeet_law (c : Cf) (a : Option Addr) (m d : Nat) (la : List Rw) (b : Option Addr) (n f : Nat) (lb : List Rw) (w : World) (hm : m = la.length) (hn : n = lb.length) (hA : Books w (.slice a m d) la) (hB : Books w (.slice b n f) lb)
    (hRa : Reach la) (hRb : Reach lb) : Calls Try.prog 8 #[cfV c, .slice a m d, .slice b n f] w (Says w true) := by
  have HW0 := Lib.hid (Whole.made w 23 (cfCells c))
  have Hb0 := Lib.hid (below_box w (.cells (cfCells c) 23))
  have HA := Lib.hid hA; clear hA
  have HB := Lib.hid hB; clear hB
  have Hm := Lib.hid hm; clear hm
  have Hn := Lib.hid hn; clear hn
  have Ra := Lib.hid hRa; clear hRa
  have Rb := Lib.hid hRb; clear hRb
  obtain ⟨sa, Hsa⟩ : ∃ z, Hid (shortB la = z) := ⟨_, rfl⟩
  obtain ⟨sb, Hsb⟩ : ∃ z, Hid (shortB lb = z) := ⟨_, rfl⟩
  have HX := Lib.hid (joinR_cases c la lb)
  have HZ := Lib.hid (joinR_self c la)
  have Hy0 := Lib.hid (joinR_comm c lb la)
  obtain ⟨⟨x, y⟩, Hres1⟩ : ∃ z, Hid (joinR c la lb = z) := ⟨_, rfl⟩
  obtain ⟨⟨z, g⟩, Hres3⟩ : ∃ z, Hid (joinR c la la = z) := ⟨_, rfl⟩
  obtain ⟨okz, Hokz⟩ : ∃ z, Hid (rightB c la = z) := ⟨_, rfl⟩
  obtain ⟨okx, Hokx⟩ : ∃ z, Hid (rightB c x = z) := ⟨_, rfl⟩
  obtain ⟨v4, Hres4⟩ : ∃ z, Hid (joinR c x lb = z) := ⟨_, rfl⟩
  rw [Hres1.out] at HX Hy0
  rw [Hres3.out, Hokz.out] at HZ
  simp only at HX HZ
  rw [Hres4.out, Hokx.out] at HX
  have Hres2 := Hy0
  obtain ⟨n1, Hl1⟩ : ∃ z, Hid (x.length = z) := ⟨_, rfl⟩
  obtain ⟨n3, Hl3⟩ : ∃ u, Hid (z.length = u) := ⟨_, rfl⟩
  obtain ⟨nn, q, r, p, kk, cc⟩ := c
  go_enter Try.func8, Try.ntmps8
  go_wp2_with fail
  refine (awake5 _).mono ?_
  rintro e w1 ⟨rfl, hb⟩
  have Hb1 := Lib.hid (held_next Hb0.out hb)
  have HW1 := Lib.hid (HW0.out.later hb HW0.out.lt)
  clear hb
  go_wp2_with fail
  refine (refshort_calls a m d la Hm.out Ra.out _ (HA.out.later Hb1.out)).mono ?_
  rintro e w2 ⟨rfl, hb⟩
  rw [Hsa.out]
  have Hb2 := Lib.hid (held_next Hb1.out hb)
  have HW2 := Lib.hid (HW1.out.later hb HW1.out.lt)
  clear hb
  cases sa with
  | false =>
    go_wp2_with fail
    go_ret
    exact ⟨by rfl, Hb2.out⟩
  | true =>
  go_wp2_with fail
  refine (refshort_calls b n f lb Hn.out Rb.out _ (HB.out.later Hb2.out)).mono ?_
  rintro e w3 ⟨rfl, hb⟩
  rw [Hsb.out]
  have Hb3 := Lib.hid (held_next Hb2.out hb)
  have HW3 := Lib.hid (HW2.out.later hb HW2.out.lt)
  clear hb
  cases sb with
  | false =>
    go_wp2_with fail
    go_ret
    exact ⟨by rfl, Hb3.out⟩
  | true =>
  obtain ⟨d0, d1, d2, d3, d4, d5⟩ := config_cells HW3.out
  simp only at d0 d1 d2 d3 d4 d5
  go_wp2_with fail
  refine (rJoin_calls ⟨nn, q, r, p, kk, cc⟩ a m d b n f la lb Hm.out Hn.out _ (HA.out.later Hb3.out) (HB.out.later Hb3.out)).mono ?_
  rw [Hres1.out]
  rintro e w4 ⟨AX, CX, rfl, hX, hb⟩
  simp only at hX ⊢
  rw [Hl1.out] at hX ⊢
  have X_4 := Lib.hid hX
  clear hX
  have Hb4 := Lib.hid (held_next Hb3.out hb)
  have HW4 := Lib.hid (HW3.out.later hb HW3.out.lt)
  clear d0 d1 d2 d3 d4 d5
  clear hb
  obtain ⟨d0, d1, d2, d3, d4, d5⟩ := config_cells HW4.out
  simp only at d0 d1 d2 d3 d4 d5
  go_wp2_with fail
  refine (rJoin_calls ⟨nn, q, r, p, kk, cc⟩ b n f a m d lb la Hn.out Hm.out _ (HB.out.later Hb4.out) (HA.out.later Hb4.out)).mono ?_
  rw [Hres2.out]
  rintro e w5 ⟨AY, CY, rfl, hX, hb⟩
  simp only at hX ⊢
  rw [Hl1.out] at hX ⊢
  have Y_5 := Lib.hid hX
  clear hX
  have Hb5 := Lib.hid (held_next Hb4.out hb)
  have HW5 := Lib.hid (HW4.out.later hb HW4.out.lt)
  have X_5 := Lib.hid (X_4.out.later hb)
  clear d0 d1 d2 d3 d4 d5
  clear hb
  obtain ⟨d0, d1, d2, d3, d4, d5⟩ := config_cells HW5.out
  simp only at d0 d1 d2 d3 d4 d5
  go_wp2_with fail
  refine (rJoin_calls ⟨nn, q, r, p, kk, cc⟩ a m d a m d la la Hm.out Hm.out _ (HA.out.later Hb5.out) (HA.out.later Hb5.out)).mono ?_
  rw [Hres3.out]
  rintro e w6 ⟨AZ, CZ, rfl, hX, hb⟩
  simp only at hX ⊢
  rw [Hl3.out] at hX ⊢
  have Z_6 := Lib.hid hX
  clear hX
  have Hb6 := Lib.hid (held_next Hb5.out hb)
  have HW6 := Lib.hid (HW5.out.later hb HW5.out.lt)
  have X_6 := Lib.hid (X_5.out.later hb)
  have Y_6 := Lib.hid (Y_5.out.later hb)
  clear d0 d1 d2 d3 d4 d5
  clear hb
  go_wp2_with fail
  refine (refsamebooks_calls AX n1 CX AY n1 CY x x Hl1.out.symm Hl1.out.symm _ X_6.out Y_6.out).mono ?_
  rintro e w7 ⟨rfl, hb⟩
  rw [sameL_self]
  have Hb7 := Lib.hid (held_next Hb6.out hb)
  have HW7 := Lib.hid (HW6.out.later hb HW6.out.lt)
  have X_7 := Lib.hid (X_6.out.later hb)
  have Y_7 := Lib.hid (Y_6.out.later hb)
  have Z_7 := Lib.hid (Z_6.out.later hb)
  clear hb
  have HX' := HX.out
  clear HX
  rcases HZ.out with ⟨rfl, rfl, rfl⟩ | ⟨rfl, rfl⟩
  · go_wp2_with fail
    refine (refsamebooks_calls AZ n3 CZ a m d z z Hl3.out.symm Hm.out _ Z_7.out (HA.out.later Hb7.out)).mono ?_
    rintro e w8 ⟨rfl, hb⟩
    rw [sameL_self]
    have Hb8 := Lib.hid (held_next Hb7.out hb)
    have HW8 := Lib.hid (HW7.out.later hb HW7.out.lt)
    have X_8 := Lib.hid (X_7.out.later hb)
    have Y_8 := Lib.hid (Y_7.out.later hb)
    have Z_8 := Lib.hid (Z_7.out.later hb)
    clear hb
    obtain ⟨d0, d1, d2, d3, d4, d5⟩ := config_cells HW8.out
    simp only at d0 d1 d2 d3 d4 d5
    go_wp2_with fail
    refine (refright_calls ⟨nn, q, r, p, kk, cc⟩ a m d z Hm.out _ (HA.out.later Hb8.out)).mono ?_
    rintro e w9 ⟨rfl, hb⟩
    rw [Hokz.out]
    have Hb9 := Lib.hid (held_next Hb8.out hb)
    have HW9 := Lib.hid (HW8.out.later hb HW8.out.lt)
    have X_9 := Lib.hid (X_8.out.later hb)
    have Y_9 := Lib.hid (Y_8.out.later hb)
    have Z_9 := Lib.hid (Z_8.out.later hb)
    clear d0 d1 d2 d3 d4 d5
    clear hb
    rcases HX' with ⟨rfl, rfl, rfl⟩ | ⟨rfl, rfl⟩ | ⟨rfl, rfl⟩
    · obtain ⟨d0, d1, d2, d3, d4, d5⟩ := config_cells HW9.out
      simp only at d0 d1 d2 d3 d4 d5
      go_wp2_with fail
      refine (rJoin_calls ⟨nn, q, r, p, kk, cc⟩ AX n1 CX b n f x lb Hl1.out.symm Hn.out _ X_9.out (HB.out.later Hb9.out)).mono ?_
      rw [Hres4.out]
      rintro e w10 ⟨AV, CV, rfl, hX, hb⟩
      simp only at hX ⊢
      rw [Hl1.out] at hX ⊢
      have V_10 := Lib.hid hX
      clear hX
      have Hb10 := Lib.hid (held_next Hb9.out hb)
      have HW10 := Lib.hid (HW9.out.later hb HW9.out.lt)
      have X_10 := Lib.hid (X_9.out.later hb)
      have Y_10 := Lib.hid (Y_9.out.later hb)
      have Z_10 := Lib.hid (Z_9.out.later hb)
      clear d0 d1 d2 d3 d4 d5
      clear hb
      go_wp2_with fail
      refine (refsamebooks_calls AV n1 CV AX n1 CX x x Hl1.out.symm Hl1.out.symm _ V_10.out X_10.out).mono ?_
      rintro e w11 ⟨rfl, hb⟩
      rw [sameL_self]
      have Hb11 := Lib.hid (held_next Hb10.out hb)
      have HW11 := Lib.hid (HW10.out.later hb HW10.out.lt)
      have X_11 := Lib.hid (X_10.out.later hb)
      have Y_11 := Lib.hid (Y_10.out.later hb)
      have Z_11 := Lib.hid (Z_10.out.later hb)
      have V_11 := Lib.hid (V_10.out.later hb)
      clear hb
      obtain ⟨d0, d1, d2, d3, d4, d5⟩ := config_cells HW11.out
      simp only at d0 d1 d2 d3 d4 d5
      go_wp2_with fail
      refine (refright_calls ⟨nn, q, r, p, kk, cc⟩ AX n1 CX x Hl1.out.symm _ X_11.out).mono ?_
      rintro e w12 ⟨rfl, hb⟩
      rw [Hokx.out]
      have Hb12 := Lib.hid (held_next Hb11.out hb)
      have HW12 := Lib.hid (HW11.out.later hb HW11.out.lt)
      have X_12 := Lib.hid (X_11.out.later hb)
      have Y_12 := Lib.hid (Y_11.out.later hb)
      have Z_12 := Lib.hid (Z_11.out.later hb)
      have V_12 := Lib.hid (V_11.out.later hb)
      clear d0 d1 d2 d3 d4 d5
      clear hb
      go_wp2_with fail
      go_ret
      exact ⟨by simp, Hb12.out⟩
    · obtain rfl : n1 = 0 := Hl1.out.symm
      go_wp2_with fail
      go_ret
      exact ⟨by simp, Hb9.out⟩
    · obtain rfl : n1 = 0 := Hl1.out.symm
      go_wp2_with fail
      go_ret
      exact ⟨by simp, Hb9.out⟩
  · obtain ⟨d0, d1, d2, d3, d4, d5⟩ := config_cells HW7.out
    simp only at d0 d1 d2 d3 d4 d5
    go_wp2_with fail
    refine (refright_calls ⟨nn, q, r, p, kk, cc⟩ a m d la Hm.out _ (HA.out.later Hb7.out)).mono ?_
    rintro e w8 ⟨rfl, hb⟩
    rw [Hokz.out]
    have Hb8 := Lib.hid (held_next Hb7.out hb)
    have HW8 := Lib.hid (HW7.out.later hb HW7.out.lt)
    have X_8 := Lib.hid (X_7.out.later hb)
    have Y_8 := Lib.hid (Y_7.out.later hb)
    have Z_8 := Lib.hid (Z_7.out.later hb)
    clear d0 d1 d2 d3 d4 d5
    clear hb
    rcases HX' with ⟨rfl, rfl, rfl⟩ | ⟨rfl, rfl⟩ | ⟨rfl, rfl⟩
    · obtain ⟨d0, d1, d2, d3, d4, d5⟩ := config_cells HW8.out
      simp only at d0 d1 d2 d3 d4 d5
      go_wp2_with fail
      refine (rJoin_calls ⟨nn, q, r, p, kk, cc⟩ AX n1 CX b n f x lb Hl1.out.symm Hn.out _ X_8.out (HB.out.later Hb8.out)).mono ?_
      rw [Hres4.out]
      rintro e w9 ⟨AV, CV, rfl, hX, hb⟩
      simp only at hX ⊢
      rw [Hl1.out] at hX ⊢
      have V_9 := Lib.hid hX
      clear hX
      have Hb9 := Lib.hid (held_next Hb8.out hb)
      have HW9 := Lib.hid (HW8.out.later hb HW8.out.lt)
      have X_9 := Lib.hid (X_8.out.later hb)
      have Y_9 := Lib.hid (Y_8.out.later hb)
      have Z_9 := Lib.hid (Z_8.out.later hb)
      clear d0 d1 d2 d3 d4 d5
      clear hb
      go_wp2_with fail
      refine (refsamebooks_calls AV n1 CV AX n1 CX x x Hl1.out.symm Hl1.out.symm _ V_9.out X_9.out).mono ?_
      rintro e w10 ⟨rfl, hb⟩
      rw [sameL_self]
      have Hb10 := Lib.hid (held_next Hb9.out hb)
      have HW10 := Lib.hid (HW9.out.later hb HW9.out.lt)
      have X_10 := Lib.hid (X_9.out.later hb)
      have Y_10 := Lib.hid (Y_9.out.later hb)
      have Z_10 := Lib.hid (Z_9.out.later hb)
      have V_10 := Lib.hid (V_9.out.later hb)
      clear hb
      obtain ⟨d0, d1, d2, d3, d4, d5⟩ := config_cells HW10.out
      simp only at d0 d1 d2 d3 d4 d5
      go_wp2_with fail
      refine (refright_calls ⟨nn, q, r, p, kk, cc⟩ AX n1 CX x Hl1.out.symm _ X_10.out).mono ?_
      rintro e w11 ⟨rfl, hb⟩
      rw [Hokx.out]
      have Hb11 := Lib.hid (held_next Hb10.out hb)
      have HW11 := Lib.hid (HW10.out.later hb HW10.out.lt)
      have X_11 := Lib.hid (X_10.out.later hb)
      have Y_11 := Lib.hid (Y_10.out.later hb)
      have Z_11 := Lib.hid (Z_10.out.later hb)
      have V_11 := Lib.hid (V_10.out.later hb)
      clear d0 d1 d2 d3 d4 d5
      clear hb
      go_wp2_with fail
      go_ret
      exact ⟨by simp, Hb11.out⟩
    · obtain rfl : n1 = 0 := Hl1.out.symm
      go_wp2_with fail
      go_ret
      exact ⟨by simp, Hb8.out⟩
    · obtain rfl : n1 = 0 := Hl1.out.symm
      go_wp2_with fail
      go_ret
      exact ⟨by simp, Hb8.out⟩
end Go.Proofs.Ytlhfggnnikmikaa
