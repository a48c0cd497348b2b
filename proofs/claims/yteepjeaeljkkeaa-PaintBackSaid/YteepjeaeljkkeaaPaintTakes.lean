/- PaintTakes, walked. No law is proved here. -/
import Derived.Test.YteepjeaeljkkeaaPaintAwake
namespace Go.Proofs.Yteepjeaeljkkeaa
open Go.RowKit

set_option maxRecDepth 100000 in
set_option maxHeartbeats 4000000 in
theorem painttakes_law (c : Cf) (a : Option Addr) (n d : Nat) (zs : List Int) (w : World) (hn : n = zs.length) (hnd : n ≤ d) (hB : Bytes w (.slice a n d) zs) :
    Calls Try.prog 3 #[cfV c, .slice a n d] w (Says w true) := by
  have hbig : n ≤ 9223372036854775807 := by rw [hn]; exact hB.1
  have HW := Lib.hid (Whole.made w 23 (cfCells c))
  have Hb0 := Lib.hid (below_box w (.cells (cfCells c) 23))
  have HB := Lib.hid hB; clear hB
  have Hn := Lib.hid hn; clear hn
  obtain ⟨nn, q, r, p, kk, cc⟩ := c
  obtain ⟨res, Hres⟩ : ∃ z, Hid (takeB ⟨nn, q, r, p, kk, cc⟩ zs = z) := ⟨_, rfl⟩
  go_enter Try.func3, Try.ntmps3
  go_wp2_with fail
  refine (awake6 _).mono ?_
  rintro e w1 ⟨rfl, hb⟩
  have Hb1 := Lib.hid (held_next Hb0.out hb)
  have HW1 := Lib.hid (HW.out.later hb HW.out.lt)
  clear hb
  by_cases hbn : 2000 < n
  · go_wp2_with fail
    go_ret
    exact ⟨by rfl, Hb1.out⟩
  obtain ⟨d0, d1, d2, d3, d4, d5⟩ := config_cells HW1.out
  simp only at d0 d1 d2 d3 d4 d5
  go_wp2_with fail
  refine (pTake_calls ⟨nn, q, r, p, kk, cc⟩ a n d zs _ (HB.out.later Hb1.out) Hn.out hnd).mono ?_
  rw [Hres.out]
  rintro e w2 h
  rcases h with ⟨l, rest, A2, C2, B2, D2, rfl, rfl, hBk, hBr, hD, hb⟩ | ⟨rfl, rfl, hb⟩
  · have Hb2 := Lib.hid (held_next Hb1.out hb)
    have HW2 := Lib.hid (HW1.out.later hb HW1.out.lt)
    have HX := Lib.hid hBk
    have HY := Lib.hid hBr
    obtain ⟨m1, Hm1⟩ : ∃ z, Hid (z = l.length) := ⟨_, rfl⟩
    obtain ⟨m2, Hm2⟩ : ∃ z, Hid (z = rest.length) := ⟨_, rfl⟩
    rw [← Hm1.out] at HX ⊢
    rw [← Hm2.out] at HY ⊢
    clear hb d0 d1 d2 d3 d4 d5 hBk hBr hD
    obtain ⟨d0, d1, d2, d3, d4, d5⟩ := config_cells HW2.out
    simp only at d0 d1 d2 d3 d4 d5
    go_wp2_with fail
    refine (refptake_calls ⟨nn, q, r, p, kk, cc⟩ a n d zs _ (HB.out.later Hb2.out) Hn.out hnd).mono ?_
    rw [Hres.out]
    rintro e w3 h
    rcases h with ⟨l', rest', A3, C3, B3, D3, hlr, rfl, hBk, hBr, hD, hb⟩ | ⟨h, _⟩
    · simp only [Option.some.injEq, Prod.mk.injEq] at hlr
      obtain ⟨rfl, rfl⟩ := hlr
      have Hb3 := Lib.hid (held_next Hb2.out hb)
      rw [← Hm1.out] at hBk ⊢
      rw [← Hm2.out] at hBr ⊢
      have HX3 := Lib.hid (HX.out.later hb)
      have HY3 := Lib.hid (HY.out.later hb)
      have HZ3 := Lib.hid hBk
      have HV3 := Lib.hid hBr
      clear hb d0 d1 d2 d3 d4 d5 hBk hBr hD
      go_wp2_with fail
      refine (refsamebooks_calls A2 m1 C2 A3 m1 C3 l l Hm1.out Hm1.out _ HX3.out HZ3.out).mono ?_
      rw [sameL_self]
      rintro e w4 ⟨rfl, hb⟩
      have hc1 := str_any (HY3.out.later hb)
      have hc2 := str_any (HV3.out.later hb)
      have hs := str_same (rfl : strOfNums rest = strOfNums rest)
      have Hb4 := Lib.hid (held_next Hb3.out hb)
      clear hb
      go_wp2_with fail
      go_ret
      exact ⟨by simp, Hb4.out⟩
    · cases h
  · have Hb2 := Lib.hid (held_next Hb1.out hb)
    have HW2 := Lib.hid (HW1.out.later hb HW1.out.lt)
    clear hb d0 d1 d2 d3 d4 d5
    obtain ⟨d0, d1, d2, d3, d4, d5⟩ := config_cells HW2.out
    simp only at d0 d1 d2 d3 d4 d5
    go_wp2_with fail
    refine (refptake_calls ⟨nn, q, r, p, kk, cc⟩ a n d zs _ (HB.out.later Hb2.out) Hn.out hnd).mono ?_
    rw [Hres.out]
    rintro e w3 h
    rcases h with ⟨l', rest', A3, C3, B3, D3, h, _⟩ | ⟨_, rfl, hb⟩
    · cases h
    · have Hb3 := Lib.hid (held_next Hb2.out hb)
      clear hb d0 d1 d2 d3 d4 d5
      go_wp2_with fail
      refine (refsamebooks_calls none 0 0 none 0 0 [] [] rfl rfl _ (books_nil _ _ _ (fun _ => rfl)) (books_nil _ _ _ (fun _ => rfl))).mono ?_
      rw [sameL_self]
      rintro e w4 ⟨rfl, hb⟩
      have hc1 := str_any (bytes_nil w4 none 0 (fun _ => rfl))
      have hs := str_same (rfl : strOfNums [] = strOfNums [])
      have Hb4 := Lib.hid (held_next Hb3.out hb)
      clear hb
      go_wp2_with fail
      go_ret
      exact ⟨by simp, Hb4.out⟩
end Go.Proofs.Yteepjeaeljkkeaa
