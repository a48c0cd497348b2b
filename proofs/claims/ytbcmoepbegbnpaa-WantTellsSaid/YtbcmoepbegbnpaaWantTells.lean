/- Law WantTells, walked: any list's estimate, and what is kept of it, are what the document says; the list stays. The law itself is stated in WantCards. -/
import Derived.Test.YtbcmoepbegbnpaaWantAwake
namespace Go.Proofs.Ytbcmoepbegbnpaa
open Go.RowKit

attribute [local go_sem ↓] run_fine
set_option maxRecDepth 100000 in
set_option maxHeartbeats 8000000 in
theorem wanttells_law (a : Option Addr) (m cp : Nat) (l : List Int) (x : Int) (hm : m = l.length) (w : World) (hB : Nums w (.slice a m cp) l) :
    Calls Try.prog 3 #[.slice a m cp, .int .i64 x] w (Says w true) := by
  have hbig : m ≤ 9223372036854775807 := by rw [hm]; exact hB.1
  have HB := Lib.hid hB; clear hB
  have Hm := Lib.hid hm; clear hm
  go_enter Try.func3, Try.ntmps3
  go_wp2_with fail
  refine (awake12 _).mono ?_
  rintro e w1 ⟨rfl, hb⟩
  have Hb1 := Lib.hid hb
  clear hb
  by_cases hbg : 1000 < m
  · go_wp2_with fail
    go_ret
    exact ⟨by rfl, Hb1.out⟩
  have hs : m ≤ 1000 := by omega
  clear hbg
  obtain ⟨v9, w9, hrun, q9, b9, _⟩ := run_append_nums (ownN_nil w1) (HB.out.later (held_next Hb1.out (below_box w1 _))) Hm.out (by have := Hm.out; simp only [List.length_nil]; omega) (below_box w1 _).size
  rw [List.nil_append] at q9
  obtain ⟨A9, C9, rfl, hL9⟩ := q9.nums (by have := Hm.out; omega)
  rw [← Hm.out] at hrun hL9
  obtain ⟨hf, hv, hw⟩ := fine_of hrun
  have hb9 := (below_box w1 (.cells #[] 2)).trans b9
  have Hb9 := Lib.hid (held_next Hb1.out hb9)
  have HL9 := Lib.hid hL9
  clear hrun q9 b9 hb9 hL9
  obtain ⟨E, HE⟩ : ∃ z, Hid (estE l = z) := ⟨_, rfl⟩
  obtain ⟨ex, ey⟩ := E
  have hj1 := fun w hw => nEst_calls A9 m C9 l Hm.out hs w hw
  have hj2 := fun w hw => refest_calls a m cp l Hm.out w hw
  rw [HE.out] at hj1 hj2
  have Hj1 := Lib.hid hj1; have Hj2 := Lib.hid hj2; clear hj1 hj2
  go_wp2_with fail
  refine (Hj1.out _ HL9.out).mono ?_
  rintro e w3 ⟨rfl, hb⟩
  have Hb3 := Lib.hid (held_next Hb9.out hb)
  have HL3 := Lib.hid (HL9.out.later hb)
  clear hb hf hv hw
  go_wp2_with fail
  refine (Hj2.out _ (HB.out.later Hb3.out)).mono ?_
  rintro e w4 ⟨rfl, hb⟩
  have Hb4 := Lib.hid (held_next Hb3.out hb)
  have HL4 := Lib.hid (HL3.out.later hb)
  clear hb
  go_wp2_with fail
  obtain ⟨K, HK⟩ : ∃ z, Hid (keepN l x = z) := ⟨_, rfl⟩
  obtain ⟨kn, Hkn⟩ : ∃ z, Hid (K.length = z) := ⟨_, rfl⟩
  have hk1 := nKeep_calls A9 m C9 l x Hm.out hs _ HL4.out
  rw [HK.out] at hk1
  refine hk1.mono ?_
  clear hk1
  rintro e w5 ⟨A5, C5, rfl, hn, hb⟩
  simp only [Hkn.out] at hn ⊢
  have Hb5 := Lib.hid (held_next Hb4.out hb)
  have HL5 := Lib.hid (HL4.out.later hb)
  have HN5 := Lib.hid hn
  clear hb hn
  go_wp2_with fail
  have hk1 := refkeep_calls a m cp l x Hm.out hs _ (HB.out.later Hb5.out)
  rw [HK.out] at hk1
  refine hk1.mono ?_
  clear hk1
  rintro e w6 ⟨A6, C6, rfl, hn, hb⟩
  simp only [Hkn.out] at hn ⊢
  have Hb6 := Lib.hid (held_next Hb5.out hb)
  have HL6 := Lib.hid (HL5.out.later hb)
  have HN6 := Lib.hid (HN5.out.later hb)
  have HM6 := Lib.hid hn
  clear hb hn
  go_wp2_with fail
  refine (refnsame_calls A5 kn C5 A6 kn C6 K K Hkn.out.symm Hkn.out.symm _ HN6.out HM6.out).mono ?_
  rw [sameN_self]
  rintro e w7 ⟨rfl, hb⟩
  have Hb7 := Lib.hid (held_next Hb6.out hb)
  have HL7 := Lib.hid (HL6.out.later hb)
  clear hb
  go_wp2_with fail
  refine (refnsame_calls A9 m C9 a m cp l l Hm.out Hm.out _ HL7.out (HB.out.later Hb7.out)).mono ?_
  rw [sameN_self]
  rintro e w8 ⟨rfl, hb⟩
  have Hb8 := Lib.hid (held_next Hb7.out hb)
  clear hb
  go_wp2_with fail
  go_ret
  exact ⟨by rfl, Hb8.out⟩
end Go.Proofs.Ytbcmoepbegbnpaa
