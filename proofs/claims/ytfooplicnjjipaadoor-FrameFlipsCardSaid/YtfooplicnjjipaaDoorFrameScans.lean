/- FrameScans, walked. No law is proved here. -/
import Derived.Test.YtfooplicnjjipaaDoorFrameAwake
namespace Go.Proofs.YtfooplicnjjipaaDoor
open Go.RowKit

set_option maxRecDepth 100000 in
set_option maxHeartbeats 2000000 in
theorem framescans_law (s : Sl) (zs : List Int) (w : World) (hS : SB w s zs) (hT : Tab w) : Calls Tryd.prog 3 #[slV s] w (Says w true) := by
  obtain ⟨a, n, c⟩ := s
  have HS := Lib.hid hS; clear hS
  have HT := Lib.hid hT; clear hT
  show Calls Tryd.prog 3 #[.slice a n c] w _
  go_enter Tryd.func3, Tryd.ntmps3
  go_wp2_with fail
  refine (awake8 w HT.out).mono ?_
  rintro e w1 ⟨rfl, hb⟩
  have Hb1 := Lib.hid hb; clear hb
  by_cases hn : 2000 < n
  · go_wp2_with fail
    go_ret
    exact ⟨by rfl, Hb1.out⟩
  have hz : zs.length ≤ 1000000 := by have := HS.out.1; simp only at this; omega
  have Hz := Lib.hid hz; clear hz
  obtain ⟨l, r, hsc⟩ := FrameMath.scans_ex _ zs (Nat.le_refl _)
  have Hsc := Lib.hid hsc; clear hsc
  go_wp2_with fail
  refine (fScan_calls a n c zs l r w1 (HS.out.later Hb1.out) Hz.out Hsc.out (HT.out.later Hb1.out)).mono ?_
  rintro e w2 ⟨A1, C1, rfl, _, hL, hb⟩
  have HL := Lib.hid hL
  have Hb2 := Lib.hid (held_next Hb1.out hb)
  obtain ⟨F, HF⟩ : ∃ z, Hid ((FrameMath.frames l).length = z) := ⟨_, rfl⟩
  rw [HF.out]
  obtain ⟨m, Hm⟩ : ∃ z, Hid (l.length = z) := ⟨_, rfl⟩
  rw [Hm.out] at HL ⊢
  clear hb hL
  go_wp2_with fail
  refine (refscan_calls a n c zs l r w2 (HS.out.later Hb2.out) Hz.out Hsc.out).mono ?_
  rintro e w3 ⟨v3, rfl, hO, hb⟩
  obtain ⟨A3, C3, rfl, _, hL3⟩ := hO.sls (by have h := HL.out.big; exact h)
  rw [HF.out]
  rw [Hm.out] at hL3 ⊢
  have HL3 := Lib.hid hL3
  have HL1 := Lib.hid (HL.out.later hb)
  have Hb3 := Lib.hid (held_next Hb2.out hb)
  clear hb hO hL3
  go_wp2_with fail
  refine (refsls_yes A1 A3 m C1 C3 l w3 HL1.out HL3.out).mono ?_
  rintro e w4 ⟨rfl, hb⟩
  have Hb4 := Lib.hid (held_next Hb3.out hb)
  clear hb
  go_wp2_with fail
  go_ret
  exact ⟨by simp, Hb4.out⟩
end Go.Proofs.YtfooplicnjjipaaDoor
