/- Sums: rights by what each moved and was given, and the value. No program in it. No law is proved here. -/
import Derived.Test.YtbpmonbehibgdaaMg21
import Derived.WalkKit
import Derived.ProofKit
import Derived.OpenShut
import Derived.WalkSpells
import Derived.Laws.AppendOwn
import Derived.Laws.AppendOwnNone
import Derived.Laws.OwnMore
import Derived.Lib.Hide
import Derived.Deep.Draws
import Derived.Deep.Slices
import Derived.Deep.Fields
import Derived.ChangeSame
import Derived.RegionTactic
import Derived.Maps.AppendAt
import Derived.Lib.SmallJoins
import Derived.RangeFuncNested
import Derived.RangeFuncBound
import Derived.RangeFuncLeaves
import Derived.RangeFuncBox
import Derived.Laws.MakeOwn
import Derived.LoopTactic
import Derived.BigRegion
import Derived.WalkLawsBesides
import Derived.IntWalk
import Derived.WalkSmall
import Derived.Deep.QuietTactic
import Derived.BigQuiet
import Derived.Deep.RegionHeld3
import Derived.RangeFuncCalls
import Derived.Shelf.Abstract
import Derived.Shelf.RegionOpen
import Derived.OwnWalkIn
import Derived.TacticsInMore
import Derived.LoopNIn
import Derived.LoopIn
import Derived.Laws.EntriesVeiled
namespace Go.Proofs.Ytbpmonbehibgdaa
open Go.RowKit

theorem sumN_add (f g : Nat → Int) : ∀ n, sumN (fun i => f i + g i) n = sumN f n + sumN g n
  | 0 => rfl
  | n + 1 => by simp only [sumN]; rw [sumN_add f g n]; omega
theorem sumN_sub (f g : Nat → Int) : ∀ n, sumN (fun i => f i - g i) n = sumN f n - sumN g n
  | 0 => rfl
  | n + 1 => by simp only [sumN]; rw [sumN_sub f g n]; omega
theorem sumN_zero : ∀ n, sumN (fun _ => 0) n = 0
  | 0 => rfl
  | n + 1 => by simp only [sumN]; rw [sumN_zero n]; rfl
theorem sumN_congr {f g : Nat → Int} {n : Nat} (h : ∀ k, k < n → f k = g k) : ∀ k, k ≤ n → sumN f k = sumN g k
  | 0, _ => rfl
  | k + 1, hk => by simp only [sumN]; rw [sumN_congr h k (by omega), h k (by omega)]
/-- row by row, and column by column -/
theorem sumN_swap (f : Nat → Nat → Int) (b : Nat) : ∀ a, sumN (fun w => sumN (fun i => f i w) b) a = sumN (fun i => sumN (fun w => f i w) a) b
  | 0 => by simp only [sumN]; rw [sumN_zero]
  | a + 1 => by
    simp only [sumN]
    rw [sumN_swap f b a, ← sumN_add]
/-- what was moved to who, less what who moved -/
theorem flow_split (l : List Rw) (who : Nat) : ∀ k, flow l who k = sumN (fun i => (at_ l i).out[who]?.getD 0) k - sumN (fun i => (at_ l who).out[i]?.getD 0) k
  | 0 => rfl
  | k + 1 => by
    simp only [flow, sumN]
    rw [flow_split l who k]
    omega
/-- all that was moved came to another one -/
theorem flow_none (l : List Rw) (n : Nat) : sumN (fun who => flow l who n) n = 0 := by
  have e : ∀ k, k ≤ n → sumN (fun who => flow l who n) k = sumN (fun who => sumN (fun i => (at_ l i).out[who]?.getD 0) n - sumN (fun i => (at_ l who).out[i]?.getD 0) n) k :=
    fun k hk => sumN_congr (n := n) (fun j _ => flow_split l j n) k hk
  rw [e n (Nat.le_refl _), sumN_sub, sumN_swap (fun i w => (at_ l i).out[w]?.getD 0)]
  omega
theorem sumRights_is (c : Cf) (l : List Rw) : ∀ k, sumRights c l k = sumShares c k + sumN (fun i => (at_ l i).inc - (at_ l i).use) k + sumN (fun who => flow l who l.length) k
  | 0 => rfl
  | k + 1 => by
    simp only [sumRights, sumShares, sumN]
    rw [sumRights_is c l k]
    unfold rightsV
    omega
/-- the value of right books: what there was at first, and all that was put in, less all that was taken out -/
theorem value_is {c : Cf} {l : List Rw} (h : rightOk c l) : valueV c l = c.k + sumN (fun i => (at_ l i).inc - (at_ l i).use) l.length := by
  unfold valueV
  rw [if_pos h, sumRights_is, flow_none, sumShares_all h.1 l.length h.2.1.symm]
  omega
/-- what a row moved, in all -/
theorem sumW_is {la : List Int} (h16 : la.length ≤ 16) (hb : ∀ k, k < la.length → 0 ≤ la[k]?.getD 0 ∧ la[k]?.getD 0 ≤ 1125899906842624) : ∀ k, k ≤ la.length → sumW (la.take k) = sumN (fun i => la[i]?.getD 0) k
  | 0, _ => rfl
  | k + 1, hk => by
    have ih := sumW_is h16 hb k (by omega)
    have hs := sumN_bound (g := fun i => la[i]?.getD 0) (b := 1125899906842624) (n := la.length) (fun j hj => by
      have := hb j hj
      show -1125899906842624 ≤ la[j]?.getD 0 ∧ la[j]?.getD 0 ≤ 1125899906842624
      omega) k (by omega)
    have h1 := hb k (by omega)
    rw [List.take_succ_eq_append_getElem (by omega), sumW_snoc, ih]
    rw [List.getElem?_eq_getElem (show k < la.length by omega)] at h1
    simp only [Option.getD_some] at h1
    simp only [sumN]
    rw [List.getElem?_eq_getElem (show k < la.length by omega)]
    simp only [Option.getD_some]
    exact IntWalk.wrap64_in _ (by omega)
theorem sent_is {la : List Int} (h16 : la.length ≤ 16) (hb : ∀ k, k < la.length → 0 ≤ la[k]?.getD 0 ∧ la[k]?.getD 0 ≤ 1125899906842624) : sentV la = sumN (fun i => la[i]?.getD 0) la.length := by
  have hf : fits (la.zip (mosts (-1) la.length)) = true := by
    apply fits_yes
    intro x hx
    obtain ⟨k, hk, rfl⟩ := List.getElem_of_mem hx
    rw [List.length_zip, mosts_length] at hk
    rw [zip_getElem (by rw [mosts_length]) k (by omega)]
    have h1 := hb k (by omega)
    have h2 := mosts_at (-1) la.length k (by omega)
    rw [List.getElem?_eq_getElem (show k < la.length by omega)] at h1
    rw [List.getElem?_eq_getElem (show k < (mosts (-1) la.length).length by rw [mosts_length]; omega)] at h2
    simp only [Option.getD_some] at h1 h2
    refine ⟨h1.1, ?_⟩
    show la[k] ≤ (mosts (-1) la.length)[k]'(by rw [mosts_length]; omega)
    rw [h2]
    unfold mostOf
    split
    · omega
    · exact h1.2
  unfold sentV
  rw [if_pos ⟨h16, hf⟩]
  have := sumW_is h16 hb la.length (Nat.le_refl _)
  rwa [List.take_length] at this
/-- rights by what was given and what was sent -/
theorem rights_parts {c : Cf} {l : List Rw} {m : Nat} (hm : m = l.length) (h16 : m ≤ 16) (hF : Fits l) {who : Nat} (hw : who < m) :
    rightsV c l who = shareV c who + (at_ l who).inc + sumN (fun i => (at_ l i).out[who]?.getD 0) m - sentV (at_ l who).out - (at_ l who).use := by
  have h1 := hF who (by omega)
  have h2 : sentV (at_ l who).out = sumN (fun i => (at_ l who).out[i]?.getD 0) m := by
    rw [sent_is (by omega) (fun k hk => h1.2.2.2.2.2 k (by omega)), h1.1, ← hm]
  unfold rightsV
  rw [flow_split, h2, ← hm]
  omega
end Go.Proofs.Ytbpmonbehibgdaa
