/- Merged texts: RightsShareMath, RightsSumMath. No law is proved here. -/
import Derived.Test.YtgonboccklpoaaaRightsWords
import Derived.WalkKit
import Derived.ProofKit
import Derived.OpenShut
import Derived.WalkSpells
import Derived.Laws.AppendOwn
import Derived.Laws.AppendOwnNone
import Derived.Laws.OwnMore
import Derived.Lib.Hide
import Derived.Deep.Draws
import Derived.Deep.Slices
import Derived.Deep.Fields
import Derived.ChangeSame
import Derived.RegionTactic
import Derived.Maps.AppendAt
import Derived.Lib.SmallJoins
import Derived.RangeFuncNested
import Derived.RangeFuncBound
import Derived.RangeFuncLeaves
import Derived.RangeFuncBox
import Derived.Laws.MakeOwn
import Derived.LoopTactic
import Derived.BigRegion
import Derived.WalkLawsBesides
import Derived.IntWalk
import Derived.WalkSmall
import Derived.Deep.QuietTactic
import Derived.BigQuiet
import Derived.Deep.RegionHeld3
import Derived.RangeFuncCalls
import Derived.Shelf.Abstract
import Derived.Shelf.RegionOpen
import Derived.OwnWalkIn
import Derived.TacticsInMore
import Derived.LoopNIn
import Derived.LoopIn
import Derived.Laws.EntriesVeiled
/- Shares, all together. No program in it. No law is proved here. -/
namespace Go.Proofs.Ytgonboccklpoaaa
open Go.RowKit

/-- the shares of the first k together -/
def sumShares (c : Cf) : Nat → Int
  | 0 => 0
  | k + 1 => sumShares c k + shareV c k
theorem share_of {c : Cf} (h : cfOk c) {k : Nat} (hk : (k : Int) < c.n) : shareV c k = c.k / c.n + (if (k : Int) < c.k - c.k / c.n * c.n then 1 else 0) := if_pos ⟨h, by omega, hk⟩
theorem share_most {c : Cf} (h : cfOk c) {k : Nat} (hk : (k : Int) < c.n) : c.k / c.n ≤ shareV c k ∧ shareV c k ≤ c.k / c.n + 1 := by
  rw [share_of h hk]
  split <;> omega
theorem rest_bound {c : Cf} (h : cfOk c) : 0 ≤ c.k - c.k / c.n * c.n ∧ c.k - c.k / c.n * c.n < c.n := by
  have hn : 0 < c.n := by have := h.1; omega
  have e := Int.emod_add_mul_ediv c.k c.n
  have h1 := Int.emod_nonneg c.k (b := c.n) (by omega)
  have h2 := Int.emod_lt_of_pos c.k hn
  rw [Int.mul_comm] at e
  omega
theorem sumShares_is {c : Cf} (h : cfOk c) : ∀ k : Nat, (k : Int) ≤ c.n → sumShares c k = c.k / c.n * k + (if (k : Int) < c.k - c.k / c.n * c.n then (k : Int) else c.k - c.k / c.n * c.n)
  | 0, _ => by
    have := rest_bound h
    simp only [sumShares]
    split <;> simp_all <;> omega
  | k + 1, hk => by
    have ih := sumShares_is h k (by omega)
    have hr := rest_bound h
    have e : c.k / c.n * ((k + 1 : Nat) : Int) = c.k / c.n * k + c.k / c.n := by rw [Int.natCast_succ, Int.mul_add, Int.mul_one]
    rw [sumShares, ih, share_of h (by omega), e]
    split <;> split <;> omega
theorem sumShares_all {c : Cf} (h : cfOk c) (m : Nat) (hm : c.n = (m : Int)) : sumShares c m = c.k := by
  have hr := rest_bound h
  have e := sumShares_is h m (by omega)
  rw [if_neg (by omega), ← hm] at e
  omega
theorem sumShares_bound {c : Cf} (h : cfOk c) : ∀ k : Nat, (k : Int) ≤ c.n → 0 ≤ sumShares c k ∧ sumShares c k ≤ 1099511627777 * k
  | 0, _ => by simp [sumShares]
  | k + 1, hk => by
    have ih := sumShares_bound h k (by omega)
    have := shareV_bound c k
    rw [sumShares]
    omega
theorem at_new {c : Cf} (h : cfOk c) {k : Nat} (hk : (k : Int) < c.n) : at_ (newL c) k = zeroRow c.n.toNat := by
  unfold newL
  rw [if_pos h]
  simp [at_, show k < c.n.toNat by omega]
theorem len_new {c : Cf} (h : cfOk c) : (newL c).length = c.n.toNat := by unfold newL; rw [if_pos h, List.length_replicate]
theorem zero_out (n k : Nat) : (zeroRow n).out[k]?.getD 0 = 0 := by
  unfold zeroRow
  simp only [List.getElem?_replicate]
  split <;> rfl
theorem flow_new {c : Cf} (h : cfOk c) {who : Nat} (hw : (who : Int) < c.n) : ∀ k : Nat, (k : Int) ≤ c.n → flow (newL c) who k = 0
  | 0, _ => rfl
  | k + 1, hk => by
    rw [flow, flow_new h hw k (by omega), at_new h (by omega), at_new h hw, zero_out, zero_out]; rfl
theorem rights_new {c : Cf} (h : cfOk c) {k : Nat} (hk : (k : Int) < c.n) : rightsV c (newL c) k = shareV c k := by
  unfold rightsV
  rw [flow_new h hk _ (by rw [len_new h]; have := h.1; omega), at_new h hk]
  simp [zeroRow]
theorem right_new {c : Cf} (h : cfOk c) : rightOk c (newL c) := by
  have h1 := h.1
  have hc : 0 ≤ c.c := h.2.2.2.2.2.2.2.2.2.1
  refine ⟨h, by rw [len_new h]; omega, fun i hi => ?_, fun i hi => ?_⟩
  · rw [len_new h] at hi
    rw [at_new h (by omega)]
    refine ⟨(mayR_iff _ _ _ _ _).2 ⟨?_, by omega, by omega, by simp [zeroRow], by simp [zeroRow], fun k hk => ?_⟩, by simp [zeroRow]; exact hc⟩
    · simp [zeroRow]; omega
    · rw [zero_out]; unfold mostOf; split <;> omega
  · rw [len_new h] at hi
    rw [rights_new h (by omega)]
    exact (shareV_bound c i).1
theorem of_new {c : Cf} (h : cfOk c) {k : Nat} (hk : (k : Int) < c.n) : ofV c (newL c) k = shareV c k := by
  unfold ofV
  rw [if_pos ⟨right_new h, by omega, hk⟩]
  exact rights_new h hk
theorem sum_new {c : Cf} (h : cfOk c) : ∀ k : Nat, (k : Int) ≤ c.n → sumRights c (newL c) k = sumShares c k
  | 0, _ => rfl
  | k + 1, hk => by rw [sumRights, sumShares, sum_new h k (by omega), rights_new h (by omega)]
theorem value_new {c : Cf} (h : cfOk c) : valueV c (newL c) = c.k := by
  unfold valueV
  rw [if_pos (right_new h), len_new h, sum_new h _ (by have := h.1; omega)]
  exact sumShares_all h _ (by have := h.1; omega)
end Go.Proofs.Ytgonboccklpoaaa

/- Sums: rights by what each moved and was given, and the value. No program in it. No law is proved here. -/
namespace Go.Proofs.Ytgonboccklpoaaa
open Go.RowKit

theorem sumN_add (f g : Nat → Int) : ∀ n, sumN (fun i => f i + g i) n = sumN f n + sumN g n
  | 0 => rfl
  | n + 1 => by simp only [sumN]; rw [sumN_add f g n]; omega
theorem sumN_sub (f g : Nat → Int) : ∀ n, sumN (fun i => f i - g i) n = sumN f n - sumN g n
  | 0 => rfl
  | n + 1 => by simp only [sumN]; rw [sumN_sub f g n]; omega
theorem sumN_zero : ∀ n, sumN (fun _ => 0) n = 0
  | 0 => rfl
  | n + 1 => by simp only [sumN]; rw [sumN_zero n]; rfl
theorem sumN_congr {f g : Nat → Int} {n : Nat} (h : ∀ k, k < n → f k = g k) : ∀ k, k ≤ n → sumN f k = sumN g k
  | 0, _ => rfl
  | k + 1, hk => by simp only [sumN]; rw [sumN_congr h k (by omega), h k (by omega)]
/-- row by row, and column by column -/
theorem sumN_swap (f : Nat → Nat → Int) (b : Nat) : ∀ a, sumN (fun w => sumN (fun i => f i w) b) a = sumN (fun i => sumN (fun w => f i w) a) b
  | 0 => by simp only [sumN]; rw [sumN_zero]
  | a + 1 => by
    simp only [sumN]
    rw [sumN_swap f b a, ← sumN_add]
/-- what was moved to who, less what who moved -/
theorem flow_split (l : List Rw) (who : Nat) : ∀ k, flow l who k = sumN (fun i => (at_ l i).out[who]?.getD 0) k - sumN (fun i => (at_ l who).out[i]?.getD 0) k
  | 0 => rfl
  | k + 1 => by
    simp only [flow, sumN]
    rw [flow_split l who k]
    omega
/-- all that was moved came to another one -/
theorem flow_none (l : List Rw) (n : Nat) : sumN (fun who => flow l who n) n = 0 := by
  have e : ∀ k, k ≤ n → sumN (fun who => flow l who n) k = sumN (fun who => sumN (fun i => (at_ l i).out[who]?.getD 0) n - sumN (fun i => (at_ l who).out[i]?.getD 0) n) k :=
    fun k hk => sumN_congr (n := n) (fun j _ => flow_split l j n) k hk
  rw [e n (Nat.le_refl _), sumN_sub, sumN_swap (fun i w => (at_ l i).out[w]?.getD 0)]
  omega
theorem sumRights_is (c : Cf) (l : List Rw) : ∀ k, sumRights c l k = sumShares c k + sumN (fun i => (at_ l i).inc - (at_ l i).use) k + sumN (fun who => flow l who l.length) k
  | 0 => rfl
  | k + 1 => by
    simp only [sumRights, sumShares, sumN]
    rw [sumRights_is c l k]
    unfold rightsV
    omega
/-- the value of right books: what there was at first, and all that was put in, less all that was taken out -/
theorem value_is {c : Cf} {l : List Rw} (h : rightOk c l) : valueV c l = c.k + sumN (fun i => (at_ l i).inc - (at_ l i).use) l.length := by
  unfold valueV
  rw [if_pos h, sumRights_is, flow_none, sumShares_all h.1 l.length h.2.1.symm]
  omega
/-- what a row moved, in all -/
theorem sumW_is {la : List Int} (h16 : la.length ≤ 16) (hb : ∀ k, k < la.length → 0 ≤ la[k]?.getD 0 ∧ la[k]?.getD 0 ≤ 1125899906842624) : ∀ k, k ≤ la.length → sumW (la.take k) = sumN (fun i => la[i]?.getD 0) k
  | 0, _ => rfl
  | k + 1, hk => by
    have ih := sumW_is h16 hb k (by omega)
    have hs := sumN_bound (g := fun i => la[i]?.getD 0) (b := 1125899906842624) (n := la.length) (fun j hj => by
      have := hb j hj
      show -1125899906842624 ≤ la[j]?.getD 0 ∧ la[j]?.getD 0 ≤ 1125899906842624
      omega) k (by omega)
    have h1 := hb k (by omega)
    rw [List.take_succ_eq_append_getElem (by omega), sumW_snoc, ih]
    rw [List.getElem?_eq_getElem (show k < la.length by omega)] at h1
    simp only [Option.getD_some] at h1
    simp only [sumN]
    rw [List.getElem?_eq_getElem (show k < la.length by omega)]
    simp only [Option.getD_some]
    exact IntWalk.wrap64_in _ (by omega)
theorem sent_is {la : List Int} (h16 : la.length ≤ 16) (hb : ∀ k, k < la.length → 0 ≤ la[k]?.getD 0 ∧ la[k]?.getD 0 ≤ 1125899906842624) : sentV la = sumN (fun i => la[i]?.getD 0) la.length := by
  have hf : fits (la.zip (mosts (-1) la.length)) = true := by
    apply fits_yes
    intro x hx
    obtain ⟨k, hk, rfl⟩ := List.getElem_of_mem hx
    rw [List.length_zip, mosts_length] at hk
    rw [zip_getElem (by rw [mosts_length]) k (by omega)]
    have h1 := hb k (by omega)
    have h2 := mosts_at (-1) la.length k (by omega)
    rw [List.getElem?_eq_getElem (show k < la.length by omega)] at h1
    rw [List.getElem?_eq_getElem (show k < (mosts (-1) la.length).length by rw [mosts_length]; omega)] at h2
    simp only [Option.getD_some] at h1 h2
    refine ⟨h1.1, ?_⟩
    show la[k] ≤ (mosts (-1) la.length)[k]'(by rw [mosts_length]; omega)
    rw [h2]
    unfold mostOf
    split
    · omega
    · exact h1.2
  unfold sentV
  rw [if_pos ⟨h16, hf⟩]
  have := sumW_is h16 hb la.length (Nat.le_refl _)
  rwa [List.take_length] at this
/-- rights by what was given and what was sent -/
theorem rights_parts {c : Cf} {l : List Rw} {m : Nat} (hm : m = l.length) (h16 : m ≤ 16) (hF : Fits l) {who : Nat} (hw : who < m) :
    rightsV c l who = shareV c who + (at_ l who).inc + sumN (fun i => (at_ l i).out[who]?.getD 0) m - sentV (at_ l who).out - (at_ l who).use := by
  have h1 := hF who (by omega)
  have h2 : sentV (at_ l who).out = sumN (fun i => (at_ l who).out[i]?.getD 0) m := by
    rw [sent_is (by omega) (fun k hk => h1.2.2.2.2.2 k (by omega)), h1.1, ← hm]
  unfold rightsV
  rw [flow_split, h2, ← hm]
  omega
end Go.Proofs.Ytgonboccklpoaaa
