/- Package rights, walked: within, May. No law is proved here. -/
import Derived.Test.YtgonboccklpoaaaMg1
import Derived.WalkKit
import Derived.ProofKit
import Derived.OpenShut
import Derived.WalkSpells
import Derived.Laws.AppendOwn
import Derived.Laws.AppendOwnNone
import Derived.Laws.OwnMore
import Derived.Lib.Hide
import Derived.Deep.Draws
import Derived.Deep.Slices
import Derived.Deep.Fields
import Derived.ChangeSame
import Derived.RegionTactic
import Derived.Maps.AppendAt
import Derived.Lib.SmallJoins
import Derived.RangeFuncNested
import Derived.RangeFuncBound
import Derived.RangeFuncLeaves
import Derived.RangeFuncBox
import Derived.Laws.MakeOwn
import Derived.LoopTactic
import Derived.BigRegion
import Derived.WalkLawsBesides
import Derived.IntWalk
import Derived.WalkSmall
import Derived.Deep.QuietTactic
import Derived.BigQuiet
import Derived.Deep.RegionHeld3
namespace Go.Proofs.Ytgonboccklpoaaa
open Go.RowKit

theorem within_int (v lo hi : Int) (w : World) : Calls Try.prog 39 #[.int .i64 v, .int .i64 lo, .int .i64 hi] w (fun e w' => e = .returned (.bool (withinB v lo hi)) ∧ w = w') := by
  by_cases h1 : lo ≤ v
  · by_cases h2 : v ≤ hi
    · rw [withinB_yes ⟨h1, h2⟩]
      go_enter Try.func39, Try.ntmps39
      go_wp2
      go_ret
      exact ⟨by simp, rfl⟩
    · rw [withinB_no (fun h => h2 h.2)]
      go_enter Try.func39, Try.ntmps39
      go_wp2
      go_ret
      exact ⟨by simp, rfl⟩
  · rw [withinB_no (fun h => h1 h.1)]
    go_enter Try.func39, Try.ntmps39
    go_wp2
    go_ret
    exact ⟨by simp, rfl⟩
theorem within_int64 (v lo hi : Int) (w : World) : Calls Try.prog 40 #[.int .i64 v, .int .i64 lo, .int .i64 hi] w (fun e w' => e = .returned (.bool (withinB v lo hi)) ∧ w = w') := by
  by_cases h1 : lo ≤ v
  · by_cases h2 : v ≤ hi
    · rw [withinB_yes ⟨h1, h2⟩]
      go_enter Try.func40, Try.ntmps40
      go_wp2
      go_ret
      exact ⟨by simp, rfl⟩
    · rw [withinB_no (fun h => h2 h.2)]
      go_enter Try.func40, Try.ntmps40
      go_wp2
      go_ret
      exact ⟨by simp, rfl⟩
  · rw [withinB_no (fun h => h1 h.1)]
    go_enter Try.func40, Try.ntmps40
    go_wp2
    go_ret
    exact ⟨by simp, rfl⟩
set_option maxRecDepth 100000 in
set_option maxHeartbeats 4000000 in
theorem rMay_calls (c : Cf) (w : World) : Calls Try.prog 29 #[cfV c] w (Says w (cfB c)) := by
  obtain ⟨n, q, r, p, k, c⟩ := c
  obtain ⟨b, Hbb⟩ : ∃ b, Hid (cfB ⟨n, q, r, p, k, c⟩ = b) := ⟨_, rfl⟩
  rw [Hbb.out]
  go_enter Try.func29, Try.ntmps29
  go_wp2_with fail
  refine (within_int n 1 16 _).mono ?_
  rintro e w' ⟨rfl, rfl⟩
  by_cases h0 : 1 ≤ n ∧ n ≤ 16
  rotate_left 1
  · rw [withinB_no h0]
    obtain rfl : b = false := Hbb.out.symm.trans (cfB_no fun h => by
      unfold cfOk at h
      simp only at h
      omega)
    go_wp2_with fail
    go_ret
    exact ⟨by simp, below_box _ _⟩
  rw [withinB_yes h0]
  go_wp2_with fail
  refine (within_int q 1 8 _).mono ?_
  rintro e w' ⟨rfl, rfl⟩
  by_cases h1 : 1 ≤ q ∧ q ≤ 8
  rotate_left 1
  · rw [withinB_no h1]
    obtain rfl : b = false := Hbb.out.symm.trans (cfB_no fun h => by
      unfold cfOk at h
      simp only at h
      omega)
    go_wp2_with fail
    go_ret
    exact ⟨by simp, below_box _ _⟩
  rw [withinB_yes h1]
  go_wp2_with fail
  refine (within_int r 0 8 _).mono ?_
  rintro e w' ⟨rfl, rfl⟩
  by_cases h2 : 0 ≤ r ∧ r ≤ 8
  rotate_left 1
  · rw [withinB_no h2]
    obtain rfl : b = false := Hbb.out.symm.trans (cfB_no fun h => by
      unfold cfOk at h
      simp only at h
      omega)
    go_wp2_with fail
    go_ret
    exact ⟨by simp, below_box _ _⟩
  rw [withinB_yes h2]
  go_wp2_with fail
  refine (within_int p 1 16 _).mono ?_
  rintro e w' ⟨rfl, rfl⟩
  by_cases h3 : 1 ≤ p ∧ p ≤ 16
  rotate_left 1
  · rw [withinB_no h3]
    obtain rfl : b = false := Hbb.out.symm.trans (cfB_no fun h => by
      unfold cfOk at h
      simp only at h
      omega)
    go_wp2_with fail
    go_ret
    exact ⟨by simp, below_box _ _⟩
  rw [withinB_yes h3]
  go_wp2_with fail
  refine (within_int64 k 0 1099511627776 _).mono ?_
  rintro e w' ⟨rfl, rfl⟩
  by_cases h4 : 0 ≤ k ∧ k ≤ 1099511627776
  rotate_left 1
  · rw [withinB_no h4]
    obtain rfl : b = false := Hbb.out.symm.trans (cfB_no fun h => by
      unfold cfOk at h
      simp only at h
      have h12 := Int.mul_nonneg (show 0 ≤ n by omega) (show 0 ≤ c by omega)
      have h13 := Int.mul_le_mul_of_nonneg_right (show 1 ≤ n by omega) (show 0 ≤ c by omega)
      omega)
    go_wp2_with fail
    go_ret
    exact ⟨by simp, below_box _ _⟩
  rw [withinB_yes h4]
  go_wp2_with fail
  refine (within_int64 c 0 1099511627776 _).mono ?_
  rintro e w' ⟨rfl, rfl⟩
  by_cases h5 : 0 ≤ c ∧ c ≤ 1099511627776
  rotate_left 1
  · rw [withinB_no h5]
    obtain rfl : b = false := Hbb.out.symm.trans (cfB_no fun h => by
      unfold cfOk at h
      simp only at h
      have h12 := Int.mul_nonneg (show 0 ≤ n by omega) (show 0 ≤ c by omega)
      have h13 := Int.mul_le_mul_of_nonneg_right (show 1 ≤ n by omega) (show 0 ≤ c by omega)
      omega)
    go_wp2_with fail
    go_ret
    exact ⟨by simp, below_box _ _⟩
  rw [withinB_yes h5]
  have h12 := Int.mul_nonneg (show 0 ≤ n by omega) (show 0 ≤ c by omega)
  have h13 := Int.mul_le_mul_of_nonneg_right (show n ≤ 16 by omega) (show 0 ≤ c by omega)
  have e1 : IntKind.i64.wrap (n * c) = n * c := IntWalk.i64_in _ (by omega)
  have e2 : IntKind.i64.wrap (k + n * c) = k + n * c := IntWalk.i64_in _ (by omega)
  by_cases hk : k + n * c ≤ 1099511627776
  · obtain rfl : b = true := Hbb.out.symm.trans (cfB_yes ⟨by show 1 ≤ n; omega, by show n ≤ 16; omega, by show 1 ≤ q; omega, by show q ≤ 8; omega, by show 0 ≤ r; omega, by show r ≤ 8; omega, by show 1 ≤ p; omega, by show p ≤ 16; omega, by show 0 ≤ k; omega, by show 0 ≤ c; omega, hk⟩)
    clear h12 h13
    go_wp2_with fail
    go_ret
    exact ⟨by simp, below_box _ _⟩
  · obtain rfl : b = false := Hbb.out.symm.trans (cfB_no fun h => hk h.2.2.2.2.2.2.2.2.2.2)
    clear h12 h13
    go_wp2_with fail
    go_ret
    exact ⟨by simp; omega, below_box _ _⟩
end Go.Proofs.Ytgonboccklpoaaa
