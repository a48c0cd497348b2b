/- Package rights, walked: among, Share. No law is proved here. -/
import Derived.Test.YtkkhecdmjcffjaaRightsWords
import Derived.Test.YtkkhecdmjcffjaaRightsCfg
import Derived.WalkKit
import Derived.ProofKit
import Derived.OpenShut
import Derived.WalkSpells
import Derived.Laws.AppendOwn
import Derived.Laws.AppendOwnNone
import Derived.Laws.OwnMore
import Derived.Lib.Hide
import Derived.Deep.Draws
import Derived.Deep.Slices
import Derived.Deep.Fields
import Derived.ChangeSame
import Derived.RegionTactic
import Derived.Maps.AppendAt
import Derived.Lib.SmallJoins
import Derived.RangeFuncNested
import Derived.RangeFuncBound
import Derived.RangeFuncLeaves
import Derived.RangeFuncBox
import Derived.Laws.MakeOwn
import Derived.LoopTactic
import Derived.BigRegion
import Derived.WalkLawsBesides
import Derived.IntWalk
import Derived.WalkSmall
import Derived.Deep.QuietTactic
import Derived.BigQuiet
import Derived.Deep.RegionHeld3
namespace Go.Proofs.Ytkkhecdmjcffjaa
open Go.RowKit

theorem among_calls (c : Cf) (who : Int) (w : World) : Calls Try.prog 33 #[cfV c, .int .i64 who] w (Says w (amongB c who)) := by
  obtain ⟨n, q, r, p, k, cc⟩ := c
  by_cases h1 : 0 ≤ who
  · by_cases h2 : who < n
    · rw [amongB_yes ⟨h1, h2⟩]
      go_enter Try.func33, Try.ntmps33
      go_wp2
      go_ret
      exact ⟨by simp, below_box _ _⟩
    · rw [amongB_no (fun h => h2 h.2)]
      go_enter Try.func33, Try.ntmps33
      go_wp2
      go_ret
      exact ⟨by simp, below_box _ _⟩
  · rw [amongB_no (fun h => h1 h.1)]
    go_enter Try.func33, Try.ntmps33
    go_wp2
    go_ret
    exact ⟨by simp, below_box _ _⟩
set_option maxRecDepth 100000 in
set_option maxHeartbeats 4000000 in
theorem rShare_calls (c : Cf) (who : Int) (w : World) : Calls Try.prog 41 #[cfV c, .int .i64 who] w (Num w (shareV c who)) := by
  have HW := Lib.hid (Whole.made w 23 (cfCells c))
  have Hb0 := Lib.hid (below_box w (.cells (cfCells c) 23))
  obtain ⟨n, q, r, p, k, cc⟩ := c
  obtain ⟨ok, Hok⟩ : ∃ z, Hid (cfB ⟨n, q, r, p, k, cc⟩ = z) := ⟨_, rfl⟩
  obtain ⟨v, Hv⟩ : ∃ v, Hid (shareV ⟨n, q, r, p, k, cc⟩ who = v) := ⟨_, rfl⟩
  rw [Hv.out]
  go_enter Try.func41, Try.ntmps41
  go_wp2_with fail
  refine (rMay_calls ⟨n, q, r, p, k, cc⟩ _).mono ?_
  rintro e w1 ⟨rfl, hb⟩
  rw [Hok.out]
  have Hb1 := Lib.hid (held_next Hb0.out hb)
  have HW1 := Lib.hid (HW.out.later hb HW.out.lt)
  clear hb
  obtain ⟨d0, d1, d2, d3, d4, d5⟩ := config_cells HW1.out
  simp only at d0 d1 d2 d3 d4 d5
  cases ok with
  | false =>
    obtain rfl : v = 0 := Hv.out.symm.trans (shareV_no fun h => by
      have := cfB_yes h.1
      rw [Hok.out] at this
      cases this)
    go_wp2_with fail
    go_ret
    exact ⟨by rfl, Hb1.out⟩
  | true =>
  go_wp2_with fail
  refine (among_calls ⟨n, q, r, p, k, cc⟩ who _).mono ?_
  rintro e w2 ⟨rfl, hb⟩
  have Hb2 := Lib.hid (held_next Hb1.out hb)
  have HW2 := Lib.hid (HW1.out.later hb HW1.out.lt)
  clear hb d0 d1 d2 d3 d4 d5
  have d0 : w2.cell? ⟨w.heap.size, 0, none⟩ = some (.int .i64 n) := HW2.out.cell 0
  have d4 : w2.cell? ⟨w.heap.size, 4, none⟩ = some (.int .i64 k) := HW2.out.cell 4
  by_cases ha : 0 ≤ who ∧ who < n
  rotate_left 1
  · rw [amongB_no ha]
    obtain rfl : v = 0 := Hv.out.symm.trans (shareV_no fun h => ha h.2)
    go_wp2_with fail
    go_ret
    exact ⟨by rfl, Hb2.out⟩
  rw [amongB_yes ha]
  have hok := cfB_ok Hok.out
  have hv : v = k / n + (if who < k - k / n * n then 1 else 0) := Hv.out.symm.trans (if_pos ⟨hok, ha⟩)
  obtain ⟨g1, g2, _, _, _, _, _, _, g9, g10, g11⟩ := hok
  obtain ⟨ha0, ha1⟩ := ha
  simp only at g1 g2 g9 g10 g11
  have hkk : k ≤ 1099511627776 := by
    have := Int.mul_nonneg (show 0 ≤ n by omega) g10
    omega
  clear g10 g11
  have hq0 : 0 ≤ k / n := Int.ediv_nonneg g9 (by omega)
  have hqs : k / n ≤ k := Int.ediv_le_self n g9
  rw [← rem_eq] at hv
  have hr0 : 0 ≤ k % n := Int.emod_nonneg k (by omega)
  have hr1 : k % n < n := Int.emod_lt_of_pos k (by omega)
  obtain ⟨s, hs⟩ : ∃ s, k / n = s := ⟨_, rfl⟩
  obtain ⟨m, hm⟩ : ∃ m, k % n = m := ⟨_, rfl⟩
  rw [hs] at hq0 hqs hv
  rw [hm] at hr0 hr1 hv
  have Hv2 := Lib.hid hv; clear hv
  have hn0 : n ≠ 0 := by omega
  by_cases hw : who < m
  · have Hv1 : Hid (v = s + 1) := by rw [Hv2.out, if_pos hw]; exact rfl
    go_wp2_with fail
    go_ret
    exact ⟨by rw [Hv1.out]; rfl, Hb2.out⟩
  · have Hv1 : Hid (v = s) := by rw [Hv2.out, if_neg hw, Int.add_zero]; exact rfl
    go_wp2_with fail
    go_ret
    exact ⟨by rw [Hv1.out, ← hs]; rfl, Hb2.out⟩
end Go.Proofs.Ytkkhecdmjcffjaa
