/- Merged texts: RightsMay, RightsShareMath. No law is proved here. -/
import Derived.Test.YtbpmonbehibgdaaRightsWords
import Derived.Test.YtbpmonbehibgdaaRightsCfg
import Derived.WalkKit
import Derived.ProofKit
import Derived.OpenShut
import Derived.WalkSpells
import Derived.Laws.AppendOwn
import Derived.Laws.AppendOwnNone
import Derived.Laws.OwnMore
import Derived.Lib.Hide
import Derived.Deep.Draws
import Derived.Deep.Slices
import Derived.Deep.Fields
import Derived.ChangeSame
import Derived.RegionTactic
import Derived.Maps.AppendAt
import Derived.Lib.SmallJoins
import Derived.RangeFuncNested
import Derived.RangeFuncBound
import Derived.RangeFuncLeaves
import Derived.RangeFuncBox
import Derived.Laws.MakeOwn
import Derived.LoopTactic
import Derived.BigRegion
import Derived.WalkLawsBesides
import Derived.IntWalk
import Derived.WalkSmall
import Derived.Deep.QuietTactic
import Derived.BigQuiet
import Derived.Deep.RegionHeld3
/- Package rights, walked: among, Share. No law is proved here. -/
namespace Go.Proofs.Ytbpmonbehibgdaa
open Go.RowKit

theorem among_calls (c : Cf) (who : Int) (w : World) : Calls Try.prog 59 #[cfV c, .int .i64 who] w (Says w (amongB c who)) := by
  obtain ⟨n, q, r, p, k, cc⟩ := c
  by_cases h1 : 0 ≤ who
  · by_cases h2 : who < n
    · rw [amongB_yes ⟨h1, h2⟩]
      go_enter Try.func59, Try.ntmps59
      go_wp2
      go_ret
      exact ⟨by simp, below_box _ _⟩
    · rw [amongB_no (fun h => h2 h.2)]
      go_enter Try.func59, Try.ntmps59
      go_wp2
      go_ret
      exact ⟨by simp, below_box _ _⟩
  · rw [amongB_no (fun h => h1 h.1)]
    go_enter Try.func59, Try.ntmps59
    go_wp2
    go_ret
    exact ⟨by simp, below_box _ _⟩
set_option maxRecDepth 100000 in
set_option maxHeartbeats 4000000 in
theorem rShare_calls (c : Cf) (who : Int) (w : World) : Calls Try.prog 54 #[cfV c, .int .i64 who] w (Num w (shareV c who)) := by
  have HW := Lib.hid (Whole.made w 23 (cfCells c))
  have Hb0 := Lib.hid (below_box w (.cells (cfCells c) 23))
  obtain ⟨n, q, r, p, k, cc⟩ := c
  obtain ⟨ok, Hok⟩ : ∃ z, Hid (cfB ⟨n, q, r, p, k, cc⟩ = z) := ⟨_, rfl⟩
  obtain ⟨v, Hv⟩ : ∃ v, Hid (shareV ⟨n, q, r, p, k, cc⟩ who = v) := ⟨_, rfl⟩
  rw [Hv.out]
  go_enter Try.func54, Try.ntmps54
  go_wp2_with fail
  refine (rMay_calls ⟨n, q, r, p, k, cc⟩ _).mono ?_
  rintro e w1 ⟨rfl, hb⟩
  rw [Hok.out]
  have Hb1 := Lib.hid (held_next Hb0.out hb)
  have HW1 := Lib.hid (HW.out.later hb HW.out.lt)
  clear hb
  obtain ⟨d0, d1, d2, d3, d4, d5⟩ := config_cells HW1.out
  simp only at d0 d1 d2 d3 d4 d5
  cases ok with
  | false =>
    obtain rfl : v = 0 := Hv.out.symm.trans (shareV_no fun h => by
      have := cfB_yes h.1
      rw [Hok.out] at this
      cases this)
    go_wp2_with fail
    go_ret
    exact ⟨by rfl, Hb1.out⟩
  | true =>
  go_wp2_with fail
  refine (among_calls ⟨n, q, r, p, k, cc⟩ who _).mono ?_
  rintro e w2 ⟨rfl, hb⟩
  have Hb2 := Lib.hid (held_next Hb1.out hb)
  have HW2 := Lib.hid (HW1.out.later hb HW1.out.lt)
  clear hb d0 d1 d2 d3 d4 d5
  have d0 : w2.cell? ⟨w.heap.size, 0, none⟩ = some (.int .i64 n) := HW2.out.cell 0
  have d4 : w2.cell? ⟨w.heap.size, 4, none⟩ = some (.int .i64 k) := HW2.out.cell 4
  by_cases ha : 0 ≤ who ∧ who < n
  rotate_left 1
  · rw [amongB_no ha]
    obtain rfl : v = 0 := Hv.out.symm.trans (shareV_no fun h => ha h.2)
    go_wp2_with fail
    go_ret
    exact ⟨by rfl, Hb2.out⟩
  rw [amongB_yes ha]
  have hok := cfB_ok Hok.out
  have hv : v = k / n + (if who < k - k / n * n then 1 else 0) := Hv.out.symm.trans (if_pos ⟨hok, ha⟩)
  obtain ⟨g1, g2, _, _, _, _, _, _, g9, g10, g11⟩ := hok
  obtain ⟨ha0, ha1⟩ := ha
  simp only at g1 g2 g9 g10 g11
  have hkk : k ≤ 1099511627776 := by
    have := Int.mul_nonneg (show 0 ≤ n by omega) g10
    omega
  clear g10 g11
  have hq0 : 0 ≤ k / n := Int.ediv_nonneg g9 (by omega)
  have hqs : k / n ≤ k := Int.ediv_le_self n g9
  rw [← rem_eq] at hv
  have hr0 : 0 ≤ k % n := Int.emod_nonneg k (by omega)
  have hr1 : k % n < n := Int.emod_lt_of_pos k (by omega)
  obtain ⟨s, hs⟩ : ∃ s, k / n = s := ⟨_, rfl⟩
  obtain ⟨m, hm⟩ : ∃ m, k % n = m := ⟨_, rfl⟩
  rw [hs] at hq0 hqs hv
  rw [hm] at hr0 hr1 hv
  have Hv2 := Lib.hid hv; clear hv
  have hn0 : n ≠ 0 := by omega
  by_cases hw : who < m
  · have Hv1 : Hid (v = s + 1) := by rw [Hv2.out, if_pos hw]; exact rfl
    go_wp2_with fail
    go_ret
    exact ⟨by rw [Hv1.out]; rfl, Hb2.out⟩
  · have Hv1 : Hid (v = s) := by rw [Hv2.out, if_neg hw, Int.add_zero]; exact rfl
    go_wp2_with fail
    go_ret
    exact ⟨by rw [Hv1.out, ← hs]; rfl, Hb2.out⟩
end Go.Proofs.Ytbpmonbehibgdaa

/- Shares, all together. No program in it. No law is proved here. -/
namespace Go.Proofs.Ytbpmonbehibgdaa
open Go.RowKit

/-- the shares of the first k together -/
def sumShares (c : Cf) : Nat → Int
  | 0 => 0
  | k + 1 => sumShares c k + shareV c k
theorem share_of {c : Cf} (h : cfOk c) {k : Nat} (hk : (k : Int) < c.n) : shareV c k = c.k / c.n + (if (k : Int) < c.k - c.k / c.n * c.n then 1 else 0) := if_pos ⟨h, by omega, hk⟩
theorem share_most {c : Cf} (h : cfOk c) {k : Nat} (hk : (k : Int) < c.n) : c.k / c.n ≤ shareV c k ∧ shareV c k ≤ c.k / c.n + 1 := by
  rw [share_of h hk]
  split <;> omega
theorem rest_bound {c : Cf} (h : cfOk c) : 0 ≤ c.k - c.k / c.n * c.n ∧ c.k - c.k / c.n * c.n < c.n := by
  have hn : 0 < c.n := by have := h.1; omega
  have e := Int.emod_add_mul_ediv c.k c.n
  have h1 := Int.emod_nonneg c.k (b := c.n) (by omega)
  have h2 := Int.emod_lt_of_pos c.k hn
  rw [Int.mul_comm] at e
  omega
theorem sumShares_is {c : Cf} (h : cfOk c) : ∀ k : Nat, (k : Int) ≤ c.n → sumShares c k = c.k / c.n * k + (if (k : Int) < c.k - c.k / c.n * c.n then (k : Int) else c.k - c.k / c.n * c.n)
  | 0, _ => by
    have := rest_bound h
    simp only [sumShares]
    split <;> simp_all <;> omega
  | k + 1, hk => by
    have ih := sumShares_is h k (by omega)
    have hr := rest_bound h
    have e : c.k / c.n * ((k + 1 : Nat) : Int) = c.k / c.n * k + c.k / c.n := by rw [Int.natCast_succ, Int.mul_add, Int.mul_one]
    rw [sumShares, ih, share_of h (by omega), e]
    split <;> split <;> omega
theorem sumShares_all {c : Cf} (h : cfOk c) (m : Nat) (hm : c.n = (m : Int)) : sumShares c m = c.k := by
  have hr := rest_bound h
  have e := sumShares_is h m (by omega)
  rw [if_neg (by omega), ← hm] at e
  omega
theorem sumShares_bound {c : Cf} (h : cfOk c) : ∀ k : Nat, (k : Int) ≤ c.n → 0 ≤ sumShares c k ∧ sumShares c k ≤ 1099511627777 * k
  | 0, _ => by simp [sumShares]
  | k + 1, hk => by
    have ih := sumShares_bound h k (by omega)
    have := shareV_bound c k
    rw [sumShares]
    omega
theorem at_new {c : Cf} (h : cfOk c) {k : Nat} (hk : (k : Int) < c.n) : at_ (newL c) k = zeroRow c.n.toNat := by
  unfold newL
  rw [if_pos h]
  simp [at_, show k < c.n.toNat by omega]
theorem len_new {c : Cf} (h : cfOk c) : (newL c).length = c.n.toNat := by unfold newL; rw [if_pos h, List.length_replicate]
theorem zero_out (n k : Nat) : (zeroRow n).out[k]?.getD 0 = 0 := by
  unfold zeroRow
  simp only [List.getElem?_replicate]
  split <;> rfl
theorem flow_new {c : Cf} (h : cfOk c) {who : Nat} (hw : (who : Int) < c.n) : ∀ k : Nat, (k : Int) ≤ c.n → flow (newL c) who k = 0
  | 0, _ => rfl
  | k + 1, hk => by
    rw [flow, flow_new h hw k (by omega), at_new h (by omega), at_new h hw, zero_out, zero_out]; rfl
theorem rights_new {c : Cf} (h : cfOk c) {k : Nat} (hk : (k : Int) < c.n) : rightsV c (newL c) k = shareV c k := by
  unfold rightsV
  rw [flow_new h hk _ (by rw [len_new h]; have := h.1; omega), at_new h hk]
  simp [zeroRow]
theorem right_new {c : Cf} (h : cfOk c) : rightOk c (newL c) := by
  have h1 := h.1
  have hc : 0 ≤ c.c := h.2.2.2.2.2.2.2.2.2.1
  refine ⟨h, by rw [len_new h]; omega, fun i hi => ?_, fun i hi => ?_⟩
  · rw [len_new h] at hi
    rw [at_new h (by omega)]
    refine ⟨(mayR_iff _ _ _ _ _).2 ⟨?_, by omega, by omega, by simp [zeroRow], by simp [zeroRow], fun k hk => ?_⟩, by simp [zeroRow]; exact hc⟩
    · simp [zeroRow]; omega
    · rw [zero_out]; unfold mostOf; split <;> omega
  · rw [len_new h] at hi
    rw [rights_new h (by omega)]
    exact (shareV_bound c i).1
theorem of_new {c : Cf} (h : cfOk c) {k : Nat} (hk : (k : Int) < c.n) : ofV c (newL c) k = shareV c k := by
  unfold ofV
  rw [if_pos ⟨right_new h, by omega, hk⟩]
  exact rights_new h hk
theorem sum_new {c : Cf} (h : cfOk c) : ∀ k : Nat, (k : Int) ≤ c.n → sumRights c (newL c) k = sumShares c k
  | 0, _ => rfl
  | k + 1, hk => by rw [sumRights, sumShares, sum_new h k (by omega), rights_new h (by omega)]
theorem value_new {c : Cf} (h : cfOk c) : valueV c (newL c) = c.k := by
  unfold valueV
  rw [if_pos (right_new h), len_new h, sum_new h _ (by have := h.1; omega)]
  exact sumShares_all h _ (by have := h.1; omega)
end Go.Proofs.Ytbpmonbehibgdaa
