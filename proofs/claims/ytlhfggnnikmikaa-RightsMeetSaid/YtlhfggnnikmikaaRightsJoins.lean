/- RightsJoins, walked. -/
import Derived.Test.YtlhfggnnikmikaaRightsAwake
import Derived.Test.YtlhfggnnikmikaaRefRightsSame
namespace Go.Proofs.Ytlhfggnnikmikaa
open Go.RowKit

theorem rightsjoins_law (c : Cf) (a : Option Addr) (m d : Nat) (la : List Rw) (b : Option Addr) (n f : Nat) (lb : List Rw) (w : World) (hm : m = la.length) (hn : n = lb.length) (hA : Books w (.slice a m d) la) (hB : Books w (.slice b n f) lb)
    (hRa : Reach la) (hRb : Reach lb) : Calls Try.prog 4 #[cfV c, .slice a m d, .slice b n f] w (Says w true) := by
  have HW := Lib.hid (Whole.made w 23 (cfCells c))
  have Hb0 := Lib.hid (below_box w (.cells (cfCells c) 23))
  have HA := Lib.hid hA; clear hA
  have HB := Lib.hid hB; clear hB
  have Hm := Lib.hid hm; clear hm
  have Hn := Lib.hid hn; clear hn
  have Ra := Lib.hid hRa; clear hRa
  have Rb := Lib.hid hRb; clear hRb
  obtain ⟨res, Hres⟩ : ∃ z, Hid (joinR c la lb = z) := ⟨_, rfl⟩
  obtain ⟨sa, Hsa⟩ : ∃ z, Hid (shortB la = z) := ⟨_, rfl⟩
  obtain ⟨sb, Hsb⟩ : ∃ z, Hid (shortB lb = z) := ⟨_, rfl⟩
  obtain ⟨nn, q, r, p, kk, cc⟩ := c
  go_enter Try.func4, Try.ntmps4
  go_wp2_with fail
  refine (awake5 _).mono ?_
  rintro e w1 ⟨rfl, hb⟩
  have Hb1 := Lib.hid (held_next Hb0.out hb)
  have HW1 := Lib.hid (HW.out.later hb HW.out.lt)
  clear hb
  go_wp2_with fail
  refine (refshort_calls a m d la Hm.out Ra.out _ (HA.out.later Hb1.out)).mono ?_
  rintro e w2 ⟨rfl, hb⟩
  rw [Hsa.out]
  have Hb2 := Lib.hid (held_next Hb1.out hb)
  have HW2 := Lib.hid (HW1.out.later hb HW1.out.lt)
  clear hb
  cases sa with
  | false =>
    go_wp2_with fail
    go_ret
    exact ⟨rfl, Hb2.out⟩
  | true =>
  go_wp2_with fail
  refine (refshort_calls b n f lb Hn.out Rb.out _ (HB.out.later Hb2.out)).mono ?_
  rintro e w3 ⟨rfl, hb⟩
  rw [Hsb.out]
  have Hb3 := Lib.hid (held_next Hb2.out hb)
  have HW3 := Lib.hid (HW2.out.later hb HW2.out.lt)
  clear hb
  cases sb with
  | false =>
    go_wp2_with fail
    go_ret
    exact ⟨rfl, Hb3.out⟩
  | true =>
  obtain ⟨d0, d1, d2, d3, d4, d5⟩ := config_cells HW3.out
  simp only at d0 d1 d2 d3 d4 d5
  go_wp2_with fail
  refine (rJoin_calls ⟨nn, q, r, p, kk, cc⟩ a m d b n f la lb Hm.out Hn.out _ (HA.out.later Hb3.out) (HB.out.later Hb3.out)).mono ?_
  rw [Hres.out]
  rintro e w4 ⟨A1, C1, rfl, hX, hb⟩
  have HX4 := Lib.hid hX
  have Hb4 := Lib.hid (held_next Hb3.out hb)
  have HW4 := Lib.hid (HW3.out.later hb HW3.out.lt)
  clear hb hX d0 d1 d2 d3 d4 d5
  obtain ⟨d0, d1, d2, d3, d4, d5⟩ := config_cells HW4.out
  simp only at d0 d1 d2 d3 d4 d5
  obtain ⟨x, y⟩ := res
  obtain ⟨xl, Hxl⟩ : ∃ z, Hid (x.length = z) := ⟨_, rfl⟩
  simp only at HX4 ⊢
  rw [Hxl.out] at HX4 ⊢
  go_wp2_with fail
  refine (refjoinbooks_calls ⟨nn, q, r, p, kk, cc⟩ a m d b n f la lb Hm.out Hn.out _ (HA.out.later Hb4.out) (HB.out.later Hb4.out)).mono ?_
  rw [Hres.out]
  rintro e w5 ⟨A2, C2, rfl, hY, hb⟩
  simp only at hY ⊢
  rw [Hxl.out] at hY ⊢
  have HX5 := Lib.hid (HX4.out.later hb)
  have HY5 := Lib.hid hY
  have Hb5 := Lib.hid (held_next Hb4.out hb)
  clear hb hY d0 d1 d2 d3 d4 d5
  go_wp2_with fail
  refine (refsamebooks_calls A1 xl C1 A2 xl C2 x x Hxl.out.symm Hxl.out.symm _ HX5.out HY5.out).mono ?_
  rintro e w6 ⟨rfl, hb⟩
  rw [sameL_self]
  have Hb6 := Lib.hid (held_next Hb5.out hb)
  clear hb
  go_wp2_with fail
  go_ret
  exact ⟨by simp, Hb6.out⟩
end Go.Proofs.Ytlhfggnnikmikaa
