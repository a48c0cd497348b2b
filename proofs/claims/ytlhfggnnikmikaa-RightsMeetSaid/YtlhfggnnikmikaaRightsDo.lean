/- RightsDo, walked. -/
import Derived.Test.YtlhfggnnikmikaaRightsAwake
import Derived.Test.YtlhfggnnikmikaaRefRightsSame
namespace Go.Proofs.Ytlhfggnnikmikaa
open Go.RowKit

set_option maxRecDepth 100000 in
set_option maxHeartbeats 4000000 in
theorem rightsdo_law (c : Cf) (a : Option Addr) (m d : Nat) (l : List Rw) (who tg amount : Int) (w : World) (hm : m = l.length) (hA : Books w (.slice a m d) l) (hR : Reach l) :
    Calls Try.prog 5 #[cfV c, .slice a m d, .int .i64 who, .int .i64 tg, .int .i64 amount] w (Says w true) := by
  have HW0 := Lib.hid (Whole.made w 23 (cfCells c))
  have Hb0 := Lib.hid (below_box w (.cells (cfCells c) 23))
  have HA := Lib.hid hA; clear hA
  have Hm := Lib.hid hm; clear hm
  have Ra := Lib.hid hR; clear hR
  obtain ⟨sa, Hsa⟩ : ∃ z, Hid (shortB l = z) := ⟨_, rfl⟩
  obtain ⟨⟨x1, y1⟩, Hres1⟩ : ∃ z, Hid (putR c l who amount = z) := ⟨_, rfl⟩
  obtain ⟨n1, Hl1⟩ : ∃ z, Hid (x1.length = z) := ⟨_, rfl⟩
  obtain ⟨⟨x2, y2⟩, Hres2⟩ : ∃ z, Hid (takeR c l who amount = z) := ⟨_, rfl⟩
  obtain ⟨n2, Hl2⟩ : ∃ z, Hid (x2.length = z) := ⟨_, rfl⟩
  obtain ⟨⟨x3, y3⟩, Hres3⟩ : ∃ z, Hid (moveR c l who tg amount = z) := ⟨_, rfl⟩
  obtain ⟨n3, Hl3⟩ : ∃ z, Hid (x3.length = z) := ⟨_, rfl⟩
  obtain ⟨nn, q, r, p, kk, cc⟩ := c
  go_enter Try.func5, Try.ntmps5
  go_wp2_with fail
  refine (awake5 _).mono ?_
  rintro e w1 ⟨rfl, hb⟩
  have Hb1 := Lib.hid (held_next Hb0.out hb)
  have HW1 := Lib.hid (HW0.out.later hb HW0.out.lt)
  clear hb
  go_wp2_with fail
  refine (refshort_calls a m d l Hm.out Ra.out _ (HA.out.later Hb1.out)).mono ?_
  rintro e w2 ⟨rfl, hb⟩
  rw [Hsa.out]
  have Hb2 := Lib.hid (held_next Hb1.out hb)
  have HW2 := Lib.hid (HW1.out.later hb HW1.out.lt)
  clear hb
  cases sa with
  | false =>
    go_wp2_with fail
    go_ret
    exact ⟨by rfl, Hb2.out⟩
  | true =>
  have hS := shortB_len Hsa.out
  have HS := Lib.hid hS; clear hS
  go_wp2_with fail
  refine (refcopy_calls a m d l Hm.out (by have := HS.out.1; have := Hm.out; omega) (fun k hk => by have := HS.out.2 k hk; omega) _ (HA.out.later Hb2.out)).mono ?_
  rintro e w3 ⟨A0, C0, rfl, hO, hb⟩
  obtain ⟨A0', C0', hv, hBk⟩ := hO.books (by have := HS.out.1; omega) (fun k hk => by have := HS.out.2 k hk; omega)
  simp only [Value.slice.injEq] at hv
  obtain ⟨rfl, _, rfl⟩ := hv
  rw [← Hm.out] at hBk ⊢
  have O_3 := Lib.hid hBk
  clear hO hBk
  have Hb3 := Lib.hid (held_next Hb2.out hb)
  have HW3 := Lib.hid (HW2.out.later hb HW2.out.lt)
  clear hb
  obtain ⟨d0, d1, d2, d3, d4, d5⟩ := config_cells HW3.out
  simp only at d0 d1 d2 d3 d4 d5
  go_wp2_with fail
  refine (rPut_calls ⟨nn, q, r, p, kk, cc⟩ A0 m C0 l who amount Hm.out _ O_3.out).mono ?_
  rw [Hres1.out]
  rintro e w4 ⟨AX1, CX1, rfl, hX, hb⟩
  simp only at hX ⊢
  rw [Hl1.out] at hX ⊢
  have X1_4 := Lib.hid hX
  clear hX
  have Hb4 := Lib.hid (held_next Hb3.out hb)
  have HW4 := Lib.hid (HW3.out.later hb HW3.out.lt)
  have O_4 := Lib.hid (O_3.out.later hb)
  clear d0 d1 d2 d3 d4 d5
  clear hb
  obtain ⟨d0, d1, d2, d3, d4, d5⟩ := config_cells HW4.out
  simp only at d0 d1 d2 d3 d4 d5
  go_wp2_with fail
  refine (rTake_calls ⟨nn, q, r, p, kk, cc⟩ A0 m C0 l who amount Hm.out _ O_4.out).mono ?_
  rw [Hres2.out]
  rintro e w5 ⟨AX2, CX2, rfl, hX, hb⟩
  simp only at hX ⊢
  rw [Hl2.out] at hX ⊢
  have X2_5 := Lib.hid hX
  clear hX
  have Hb5 := Lib.hid (held_next Hb4.out hb)
  have HW5 := Lib.hid (HW4.out.later hb HW4.out.lt)
  have O_5 := Lib.hid (O_4.out.later hb)
  have X1_5 := Lib.hid (X1_4.out.later hb)
  clear d0 d1 d2 d3 d4 d5
  clear hb
  obtain ⟨d0, d1, d2, d3, d4, d5⟩ := config_cells HW5.out
  simp only at d0 d1 d2 d3 d4 d5
  go_wp2_with fail
  refine (rMove_calls ⟨nn, q, r, p, kk, cc⟩ A0 m C0 l who tg amount Hm.out _ O_5.out).mono ?_
  rw [Hres3.out]
  rintro e w6 ⟨AX3, CX3, rfl, hX, hb⟩
  simp only at hX ⊢
  rw [Hl3.out] at hX ⊢
  have X3_6 := Lib.hid hX
  clear hX
  have Hb6 := Lib.hid (held_next Hb5.out hb)
  have HW6 := Lib.hid (HW5.out.later hb HW5.out.lt)
  have O_6 := Lib.hid (O_5.out.later hb)
  have X1_6 := Lib.hid (X1_5.out.later hb)
  have X2_6 := Lib.hid (X2_5.out.later hb)
  clear d0 d1 d2 d3 d4 d5
  clear hb
  obtain ⟨d0, d1, d2, d3, d4, d5⟩ := config_cells HW6.out
  simp only at d0 d1 d2 d3 d4 d5
  go_wp2_with fail
  refine (refput_calls ⟨nn, q, r, p, kk, cc⟩ a m d l who amount Hm.out _ (HA.out.later Hb6.out)).mono ?_
  rw [Hres1.out]
  rintro e w7 ⟨AY1, CY1, rfl, hX, hb⟩
  simp only at hX ⊢
  rw [Hl1.out] at hX ⊢
  have Y1_7 := Lib.hid hX
  clear hX
  have Hb7 := Lib.hid (held_next Hb6.out hb)
  have HW7 := Lib.hid (HW6.out.later hb HW6.out.lt)
  have O_7 := Lib.hid (O_6.out.later hb)
  have X1_7 := Lib.hid (X1_6.out.later hb)
  have X2_7 := Lib.hid (X2_6.out.later hb)
  have X3_7 := Lib.hid (X3_6.out.later hb)
  clear d0 d1 d2 d3 d4 d5
  clear hb
  obtain ⟨d0, d1, d2, d3, d4, d5⟩ := config_cells HW7.out
  simp only at d0 d1 d2 d3 d4 d5
  go_wp2_with fail
  refine (reftake_calls ⟨nn, q, r, p, kk, cc⟩ a m d l who amount Hm.out _ (HA.out.later Hb7.out)).mono ?_
  rw [Hres2.out]
  rintro e w8 ⟨AY2, CY2, rfl, hX, hb⟩
  simp only at hX ⊢
  rw [Hl2.out] at hX ⊢
  have Y2_8 := Lib.hid hX
  clear hX
  have Hb8 := Lib.hid (held_next Hb7.out hb)
  have HW8 := Lib.hid (HW7.out.later hb HW7.out.lt)
  have O_8 := Lib.hid (O_7.out.later hb)
  have X1_8 := Lib.hid (X1_7.out.later hb)
  have X2_8 := Lib.hid (X2_7.out.later hb)
  have X3_8 := Lib.hid (X3_7.out.later hb)
  have Y1_8 := Lib.hid (Y1_7.out.later hb)
  clear d0 d1 d2 d3 d4 d5
  clear hb
  obtain ⟨d0, d1, d2, d3, d4, d5⟩ := config_cells HW8.out
  simp only at d0 d1 d2 d3 d4 d5
  go_wp2_with fail
  refine (refmove_calls ⟨nn, q, r, p, kk, cc⟩ a m d l who tg amount Hm.out _ (HA.out.later Hb8.out)).mono ?_
  rw [Hres3.out]
  rintro e w9 ⟨AY3, CY3, rfl, hX, hb⟩
  simp only at hX ⊢
  rw [Hl3.out] at hX ⊢
  have Y3_9 := Lib.hid hX
  clear hX
  have Hb9 := Lib.hid (held_next Hb8.out hb)
  have HW9 := Lib.hid (HW8.out.later hb HW8.out.lt)
  have O_9 := Lib.hid (O_8.out.later hb)
  have X1_9 := Lib.hid (X1_8.out.later hb)
  have X2_9 := Lib.hid (X2_8.out.later hb)
  have X3_9 := Lib.hid (X3_8.out.later hb)
  have Y1_9 := Lib.hid (Y1_8.out.later hb)
  have Y2_9 := Lib.hid (Y2_8.out.later hb)
  clear d0 d1 d2 d3 d4 d5
  clear hb
  go_wp2_with fail
  refine (refsamebooks_calls AX1 n1 CX1 AY1 n1 CY1 x1 x1 Hl1.out.symm Hl1.out.symm _ X1_9.out Y1_9.out).mono ?_
  rintro e w10 ⟨rfl, hb⟩
  rw [sameL_self]
  have Hb10 := Lib.hid (held_next Hb9.out hb)
  have HW10 := Lib.hid (HW9.out.later hb HW9.out.lt)
  have O_10 := Lib.hid (O_9.out.later hb)
  have X1_10 := Lib.hid (X1_9.out.later hb)
  have X2_10 := Lib.hid (X2_9.out.later hb)
  have X3_10 := Lib.hid (X3_9.out.later hb)
  have Y1_10 := Lib.hid (Y1_9.out.later hb)
  have Y2_10 := Lib.hid (Y2_9.out.later hb)
  have Y3_10 := Lib.hid (Y3_9.out.later hb)
  clear hb
  go_wp2_with fail
  refine (refsamebooks_calls AX2 n2 CX2 AY2 n2 CY2 x2 x2 Hl2.out.symm Hl2.out.symm _ X2_10.out Y2_10.out).mono ?_
  rintro e w11 ⟨rfl, hb⟩
  rw [sameL_self]
  have Hb11 := Lib.hid (held_next Hb10.out hb)
  have HW11 := Lib.hid (HW10.out.later hb HW10.out.lt)
  have O_11 := Lib.hid (O_10.out.later hb)
  have X1_11 := Lib.hid (X1_10.out.later hb)
  have X2_11 := Lib.hid (X2_10.out.later hb)
  have X3_11 := Lib.hid (X3_10.out.later hb)
  have Y1_11 := Lib.hid (Y1_10.out.later hb)
  have Y2_11 := Lib.hid (Y2_10.out.later hb)
  have Y3_11 := Lib.hid (Y3_10.out.later hb)
  clear hb
  go_wp2_with fail
  refine (refsamebooks_calls AX3 n3 CX3 AY3 n3 CY3 x3 x3 Hl3.out.symm Hl3.out.symm _ X3_11.out Y3_11.out).mono ?_
  rintro e w12 ⟨rfl, hb⟩
  rw [sameL_self]
  have Hb12 := Lib.hid (held_next Hb11.out hb)
  have HW12 := Lib.hid (HW11.out.later hb HW11.out.lt)
  have O_12 := Lib.hid (O_11.out.later hb)
  have X1_12 := Lib.hid (X1_11.out.later hb)
  have X2_12 := Lib.hid (X2_11.out.later hb)
  have X3_12 := Lib.hid (X3_11.out.later hb)
  have Y1_12 := Lib.hid (Y1_11.out.later hb)
  have Y2_12 := Lib.hid (Y2_11.out.later hb)
  have Y3_12 := Lib.hid (Y3_11.out.later hb)
  clear hb
  go_wp2_with fail
  refine (refsamebooks_calls A0 m C0 a m d l l Hm.out Hm.out _ O_12.out (HA.out.later Hb12.out)).mono ?_
  rintro e w13 ⟨rfl, hb⟩
  rw [sameL_self]
  have Hb13 := Lib.hid (held_next Hb12.out hb)
  have HW13 := Lib.hid (HW12.out.later hb HW12.out.lt)
  have O_13 := Lib.hid (O_12.out.later hb)
  have X1_13 := Lib.hid (X1_12.out.later hb)
  have X2_13 := Lib.hid (X2_12.out.later hb)
  have X3_13 := Lib.hid (X3_12.out.later hb)
  have Y1_13 := Lib.hid (Y1_12.out.later hb)
  have Y2_13 := Lib.hid (Y2_12.out.later hb)
  have Y3_13 := Lib.hid (Y3_12.out.later hb)
  clear hb
  go_wp2_with fail
  go_ret
  exact ⟨by simp, Hb13.out⟩
end Go.Proofs.Ytlhfggnnikmikaa
