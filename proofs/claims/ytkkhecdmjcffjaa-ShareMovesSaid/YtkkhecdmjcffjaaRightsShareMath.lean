/- Shares, all together. No program in it. No law is proved here. -/
import Derived.Test.YtkkhecdmjcffjaaRightsWords
import Derived.WalkKit
import Derived.ProofKit
import Derived.OpenShut
import Derived.WalkSpells
import Derived.Laws.AppendOwn
import Derived.Laws.AppendOwnNone
import Derived.Laws.OwnMore
import Derived.Lib.Hide
import Derived.Deep.Draws
import Derived.Deep.Slices
import Derived.Deep.Fields
import Derived.ChangeSame
import Derived.RegionTactic
import Derived.Maps.AppendAt
import Derived.Lib.SmallJoins
import Derived.RangeFuncNested
import Derived.RangeFuncBound
import Derived.RangeFuncLeaves
import Derived.RangeFuncBox
import Derived.Laws.MakeOwn
import Derived.LoopTactic
import Derived.BigRegion
import Derived.WalkLawsBesides
import Derived.IntWalk
import Derived.WalkSmall
import Derived.Deep.QuietTactic
import Derived.BigQuiet
import Derived.Deep.RegionHeld3
namespace Go.Proofs.Ytkkhecdmjcffjaa
open Go.RowKit

/-- the shares of the first k together -/
def sumShares (c : Cf) : Nat → Int
  | 0 => 0
  | k + 1 => sumShares c k + shareV c k
theorem share_of {c : Cf} (h : cfOk c) {k : Nat} (hk : (k : Int) < c.n) : shareV c k = c.k / c.n + (if (k : Int) < c.k - c.k / c.n * c.n then 1 else 0) := if_pos ⟨h, by omega, hk⟩
theorem share_most {c : Cf} (h : cfOk c) {k : Nat} (hk : (k : Int) < c.n) : c.k / c.n ≤ shareV c k ∧ shareV c k ≤ c.k / c.n + 1 := by
  rw [share_of h hk]
  split <;> omega
theorem rest_bound {c : Cf} (h : cfOk c) : 0 ≤ c.k - c.k / c.n * c.n ∧ c.k - c.k / c.n * c.n < c.n := by
  have hn : 0 < c.n := by have := h.1; omega
  have e := Int.emod_add_mul_ediv c.k c.n
  have h1 := Int.emod_nonneg c.k (b := c.n) (by omega)
  have h2 := Int.emod_lt_of_pos c.k hn
  rw [Int.mul_comm] at e
  omega
theorem sumShares_is {c : Cf} (h : cfOk c) : ∀ k : Nat, (k : Int) ≤ c.n → sumShares c k = c.k / c.n * k + (if (k : Int) < c.k - c.k / c.n * c.n then (k : Int) else c.k - c.k / c.n * c.n)
  | 0, _ => by
    have := rest_bound h
    simp only [sumShares]
    split <;> simp_all <;> omega
  | k + 1, hk => by
    have ih := sumShares_is h k (by omega)
    have hr := rest_bound h
    have e : c.k / c.n * ((k + 1 : Nat) : Int) = c.k / c.n * k + c.k / c.n := by rw [Int.natCast_succ, Int.mul_add, Int.mul_one]
    rw [sumShares, ih, share_of h (by omega), e]
    split <;> split <;> omega
theorem sumShares_all {c : Cf} (h : cfOk c) (m : Nat) (hm : c.n = (m : Int)) : sumShares c m = c.k := by
  have hr := rest_bound h
  have e := sumShares_is h m (by omega)
  rw [if_neg (by omega), ← hm] at e
  omega
theorem sumShares_bound {c : Cf} (h : cfOk c) : ∀ k : Nat, (k : Int) ≤ c.n → 0 ≤ sumShares c k ∧ sumShares c k ≤ 1099511627777 * k
  | 0, _ => by simp [sumShares]
  | k + 1, hk => by
    have ih := sumShares_bound h k (by omega)
    have := shareV_bound c k
    rw [sumShares]
    omega
theorem at_new {c : Cf} (h : cfOk c) {k : Nat} (hk : (k : Int) < c.n) : at_ (newL c) k = zeroRow c.n.toNat := by
  unfold newL
  rw [if_pos h]
  simp [at_, show k < c.n.toNat by omega]
theorem len_new {c : Cf} (h : cfOk c) : (newL c).length = c.n.toNat := by unfold newL; rw [if_pos h, List.length_replicate]
theorem zero_out (n k : Nat) : (zeroRow n).out[k]?.getD 0 = 0 := by
  unfold zeroRow
  simp only [List.getElem?_replicate]
  split <;> rfl
theorem flow_new {c : Cf} (h : cfOk c) {who : Nat} (hw : (who : Int) < c.n) : ∀ k : Nat, (k : Int) ≤ c.n → flow (newL c) who k = 0
  | 0, _ => rfl
  | k + 1, hk => by
    rw [flow, flow_new h hw k (by omega), at_new h (by omega), at_new h hw, zero_out, zero_out]; rfl
theorem rights_new {c : Cf} (h : cfOk c) {k : Nat} (hk : (k : Int) < c.n) : rightsV c (newL c) k = shareV c k := by
  unfold rightsV
  rw [flow_new h hk _ (by rw [len_new h]; have := h.1; omega), at_new h hk]
  simp [zeroRow]
theorem right_new {c : Cf} (h : cfOk c) : rightOk c (newL c) := by
  have h1 := h.1
  have hc : 0 ≤ c.c := h.2.2.2.2.2.2.2.2.2.1
  refine ⟨h, by rw [len_new h]; omega, fun i hi => ?_, fun i hi => ?_⟩
  · rw [len_new h] at hi
    rw [at_new h (by omega)]
    refine ⟨(mayR_iff _ _ _ _ _).2 ⟨?_, by omega, by omega, by simp [zeroRow], by simp [zeroRow], fun k hk => ?_⟩, by simp [zeroRow]; exact hc⟩
    · simp [zeroRow]; omega
    · rw [zero_out]; unfold mostOf; split <;> omega
  · rw [len_new h] at hi
    rw [rights_new h (by omega)]
    exact (shareV_bound c i).1
theorem of_new {c : Cf} (h : cfOk c) {k : Nat} (hk : (k : Int) < c.n) : ofV c (newL c) k = shareV c k := by
  unfold ofV
  rw [if_pos ⟨right_new h, by omega, hk⟩]
  exact rights_new h hk
theorem sum_new {c : Cf} (h : cfOk c) : ∀ k : Nat, (k : Int) ≤ c.n → sumRights c (newL c) k = sumShares c k
  | 0, _ => rfl
  | k + 1, hk => by rw [sumRights, sumShares, sum_new h k (by omega), rights_new h (by omega)]
theorem value_new {c : Cf} (h : cfOk c) : valueV c (newL c) = c.k := by
  unfold valueV
  rw [if_pos (right_new h), len_new h, sum_new h _ (by have := h.1; omega)]
  exact sumShares_all h _ (by have := h.1; omega)
end Go.Proofs.Ytkkhecdmjcffjaa
