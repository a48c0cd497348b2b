/- Law WantMore, walked: what is asked for more makes the estimate more by just that, where the list had room; time makes it no more. The law itself is stated in WantCards. -/
import Derived.Test.YtbcmoepbegbnpaaWantAwake
namespace Go.Proofs.Ytbcmoepbegbnpaa
open Go.RowKit

set_option maxRecDepth 100000 in
set_option maxHeartbeats 8000000 in
theorem wantmore_law (a : Option Addr) (m cp : Nat) (l : List Int) (x : Int) (hm : m = l.length) (w : World) (hB : Nums w (.slice a m cp) l) :
    Calls Try.prog 5 #[.slice a m cp, .int .i64 x] w (Says w true) := by
  have hbig : m ≤ 9223372036854775807 := by rw [hm]; exact hB.1
  have HB := Lib.hid hB; clear hB
  have Hm := Lib.hid hm; clear hm
  go_enter Try.func5, Try.ntmps5
  go_wp2_with fail
  refine (awake12 _).mono ?_
  rintro e w1 ⟨rfl, hb⟩
  have Hb1 := Lib.hid hb
  clear hb
  by_cases hbg : 60 < m
  · go_wp2_with fail
    go_ret
    exact ⟨by rfl, Hb1.out⟩
  by_cases hx1 : x < 1
  · go_wp2_with fail
    go_ret
    exact ⟨by rfl, Hb1.out⟩
  by_cases hx2 : 1099511627776 < x
  · go_wp2_with fail
    go_ret
    exact ⟨by rfl, Hb1.out⟩
  obtain ⟨q, rfl⟩ : ∃ q : Nat, x = q := ⟨x.toNat, by omega⟩
  obtain ⟨E, HE⟩ : ∃ z, Hid (estE l = z) := ⟨_, rfl⟩
  have hbd := estE_bound l
  have hm1 := est_more (l := l) (q : Int) (by have := Hm.out; omega)
  have hm2 := est_more (l := l) 0 (by have := Hm.out; omega)
  rw [stepE_in _ (by omega) (by omega), HE.out, Int.toNat_natCast] at hm1
  rw [stepE_zero, HE.out] at hm2
  rw [HE.out] at hbd
  obtain ⟨ex, ey⟩ := E
  simp only at hbd hm1 hm2
  obtain ⟨hx, hy, _⟩ := hbd
  have Hm1 := Lib.hid hm1; have Hm2 := Lib.hid hm2
  clear hm1 hm2
  have hs : m ≤ 1000 := by omega
  have hj1 := fun w hw => nEst_calls a m cp l Hm.out hs w hw
  rw [HE.out] at hj1
  have Hj1 := Lib.hid hj1; clear hj1
  go_wp2_with fail
  refine (Hj1.out _ (HB.out.later Hb1.out)).mono ?_
  rintro e w2 ⟨rfl, hb⟩
  have Hb2 := Lib.hid (held_next Hb1.out hb)
  clear hb
  go_wp2_with fail
  have hkl := keepN_le l (q : Int)
  have hk0 := keepN_le l 0
  obtain ⟨K, HK⟩ : ∃ z, Hid (keepN l (q : Int) = z) := ⟨_, rfl⟩
  obtain ⟨kn, Hkn⟩ : ∃ z, Hid (K.length = z) := ⟨_, rfl⟩
  have hk1 := nKeep_calls a m cp l (q : Int) Hm.out hs _ (HB.out.later Hb2.out)
  have h1 := Hm1.out
  rw [HK.out] at hk1 hkl h1
  rw [Hkn.out] at hkl
  refine hk1.mono ?_
  clear hk1
  rintro e w3 ⟨A3, C3, rfl, hn, hb⟩
  simp only [Hkn.out] at hn ⊢
  have Hb3 := Lib.hid (held_next Hb2.out hb)
  have HN3 := Lib.hid hn
  have H1 := Lib.hid h1
  clear hb hn h1
  go_wp2_with fail
  have hj3 := nEst_calls A3 kn C3 K Hkn.out.symm (by omega) _ HN3.out
  rw [H1.out] at hj3
  refine hj3.mono ?_
  clear hj3
  rintro e w4 ⟨rfl, hb⟩
  have Hb4 := Lib.hid (held_next Hb3.out hb)
  clear hb
  go_wp2_with fail
  obtain ⟨L, HL⟩ : ∃ z, Hid (keepN l 0 = z) := ⟨_, rfl⟩
  obtain ⟨ln, Hln⟩ : ∃ z, Hid (L.length = z) := ⟨_, rfl⟩
  have hk1 := nKeep_calls a m cp l 0 Hm.out hs _ (HB.out.later Hb4.out)
  have h2 := Hm2.out
  rw [HL.out] at hk1 hk0 h2
  rw [Hln.out] at hk0
  refine hk1.mono ?_
  clear hk1
  rintro e w5 ⟨A5, C5, rfl, hn, hb⟩
  simp only [Hln.out] at hn ⊢
  have Hb5 := Lib.hid (held_next Hb4.out hb)
  have HN5 := Lib.hid hn
  have H2 := Lib.hid h2
  clear hb hn h2
  go_wp2_with fail
  have hj3 := nEst_calls A5 ln C5 L Hln.out.symm (by omega) _ HN5.out
  rw [H2.out] at hj3
  refine hj3.mono ?_
  clear hj3
  rintro e w6 ⟨rfl, hb⟩
  have Hb6 := Lib.hid (held_next Hb5.out hb)
  clear hb
  go_wp2_with fail
  go_ret
  exact ⟨by rfl, Hb6.out⟩
end Go.Proofs.Ytbcmoepbegbnpaa
