/- Merged texts: RightsMay, RightsShareMath, RightsSumMath, RowLimits. No law is proved here. -/
import Derived.Test.YtfpadcfahfanoaaRightsWords
import Derived.Test.YtfpadcfahfanoaaMg20
import Derived.WalkKit
import Derived.ProofKit
import Derived.OpenShut
import Derived.WalkSpells
import Derived.Laws.AppendOwn
import Derived.Laws.AppendOwnNone
import Derived.Laws.OwnMore
import Derived.Lib.Hide
import Derived.Deep.Draws
import Derived.Deep.Slices
import Derived.Deep.Fields
import Derived.ChangeSame
import Derived.RegionTactic
import Derived.Maps.AppendAt
import Derived.Lib.SmallJoins
import Derived.RangeFuncNested
import Derived.RangeFuncBound
import Derived.RangeFuncLeaves
import Derived.RangeFuncBox
import Derived.Laws.MakeOwn
import Derived.LoopTactic
import Derived.BigRegion
import Derived.WalkLawsBesides
import Derived.IntWalk
import Derived.WalkSmall
import Derived.Deep.QuietTactic
import Derived.BigQuiet
import Derived.Deep.RegionHeld3
import Derived.RangeFuncCalls
import Derived.Shelf.Abstract
import Derived.Shelf.RegionOpen
import Derived.OwnWalkIn
import Derived.TacticsInMore
import Derived.LoopNIn
import Derived.LoopIn
import Derived.Laws.EntriesVeiled
import Derived.Test.YtfpadcfahfanoaaRowWorld
/- Package rights, walked: among, Share. No law is proved here. -/
namespace Go.Proofs.Ytfpadcfahfanoaa
open Go.RowKit

theorem among_calls (c : Cf) (who : Int) (w : World) : Calls Try.prog 73 #[cfV c, .int .i64 who] w (Says w (amongB c who)) := by
  obtain ⟨n, q, r, p, k, cc⟩ := c
  by_cases h1 : 0 ≤ who
  · by_cases h2 : who < n
    · rw [amongB_yes ⟨h1, h2⟩]
      go_enter Try.func73, Try.ntmps73
      go_wp2
      go_ret
      exact ⟨by simp, below_box _ _⟩
    · rw [amongB_no (fun h => h2 h.2)]
      go_enter Try.func73, Try.ntmps73
      go_wp2
      go_ret
      exact ⟨by simp, below_box _ _⟩
  · rw [amongB_no (fun h => h1 h.1)]
    go_enter Try.func73, Try.ntmps73
    go_wp2
    go_ret
    exact ⟨by simp, below_box _ _⟩
set_option maxRecDepth 100000 in
set_option maxHeartbeats 4000000 in
theorem rShare_calls (c : Cf) (who : Int) (w : World) : Calls Try.prog 67 #[cfV c, .int .i64 who] w (Num w (shareV c who)) := by
  have HW := Lib.hid (Whole.made w 23 (cfCells c))
  have Hb0 := Lib.hid (below_box w (.cells (cfCells c) 23))
  obtain ⟨n, q, r, p, k, cc⟩ := c
  obtain ⟨ok, Hok⟩ : ∃ z, Hid (cfB ⟨n, q, r, p, k, cc⟩ = z) := ⟨_, rfl⟩
  obtain ⟨v, Hv⟩ : ∃ v, Hid (shareV ⟨n, q, r, p, k, cc⟩ who = v) := ⟨_, rfl⟩
  rw [Hv.out]
  go_enter Try.func67, Try.ntmps67
  go_wp2_with fail
  refine (rMay_calls ⟨n, q, r, p, k, cc⟩ _).mono ?_
  rintro e w1 ⟨rfl, hb⟩
  rw [Hok.out]
  have Hb1 := Lib.hid (held_next Hb0.out hb)
  have HW1 := Lib.hid (HW.out.later hb HW.out.lt)
  clear hb
  obtain ⟨d0, d1, d2, d3, d4, d5⟩ := config_cells HW1.out
  simp only at d0 d1 d2 d3 d4 d5
  cases ok with
  | false =>
    obtain rfl : v = 0 := Hv.out.symm.trans (shareV_no fun h => by
      have := cfB_yes h.1
      rw [Hok.out] at this
      cases this)
    go_wp2_with fail
    go_ret
    exact ⟨by rfl, Hb1.out⟩
  | true =>
  go_wp2_with fail
  refine (among_calls ⟨n, q, r, p, k, cc⟩ who _).mono ?_
  rintro e w2 ⟨rfl, hb⟩
  have Hb2 := Lib.hid (held_next Hb1.out hb)
  have HW2 := Lib.hid (HW1.out.later hb HW1.out.lt)
  clear hb d0 d1 d2 d3 d4 d5
  have d0 : w2.cell? ⟨w.heap.size, 0, none⟩ = some (.int .i64 n) := HW2.out.cell 0
  have d4 : w2.cell? ⟨w.heap.size, 4, none⟩ = some (.int .i64 k) := HW2.out.cell 4
  by_cases ha : 0 ≤ who ∧ who < n
  rotate_left 1
  · rw [amongB_no ha]
    obtain rfl : v = 0 := Hv.out.symm.trans (shareV_no fun h => ha h.2)
    go_wp2_with fail
    go_ret
    exact ⟨by rfl, Hb2.out⟩
  rw [amongB_yes ha]
  have hok := cfB_ok Hok.out
  have hv : v = k / n + (if who < k - k / n * n then 1 else 0) := Hv.out.symm.trans (if_pos ⟨hok, ha⟩)
  obtain ⟨g1, g2, _, _, _, _, _, _, g9, g10, g11⟩ := hok
  obtain ⟨ha0, ha1⟩ := ha
  simp only at g1 g2 g9 g10 g11
  have hkk : k ≤ 1099511627776 := by
    have := Int.mul_nonneg (show 0 ≤ n by omega) g10
    omega
  clear g10 g11
  have hq0 : 0 ≤ k / n := Int.ediv_nonneg g9 (by omega)
  have hqs : k / n ≤ k := Int.ediv_le_self n g9
  rw [← rem_eq] at hv
  have hr0 : 0 ≤ k % n := Int.emod_nonneg k (by omega)
  have hr1 : k % n < n := Int.emod_lt_of_pos k (by omega)
  obtain ⟨s, hs⟩ : ∃ s, k / n = s := ⟨_, rfl⟩
  obtain ⟨m, hm⟩ : ∃ m, k % n = m := ⟨_, rfl⟩
  rw [hs] at hq0 hqs hv
  rw [hm] at hr0 hr1 hv
  have Hv2 := Lib.hid hv; clear hv
  have hn0 : n ≠ 0 := by omega
  by_cases hw : who < m
  · have Hv1 : Hid (v = s + 1) := by rw [Hv2.out, if_pos hw]; exact rfl
    go_wp2_with fail
    go_ret
    exact ⟨by rw [Hv1.out]; rfl, Hb2.out⟩
  · have Hv1 : Hid (v = s) := by rw [Hv2.out, if_neg hw, Int.add_zero]; exact rfl
    go_wp2_with fail
    go_ret
    exact ⟨by rw [Hv1.out, ← hs]; rfl, Hb2.out⟩
end Go.Proofs.Ytfpadcfahfanoaa

/- Shares, all together. No program in it. No law is proved here. -/
namespace Go.Proofs.Ytfpadcfahfanoaa
open Go.RowKit

/-- the shares of the first k together -/
def sumShares (c : Cf) : Nat → Int
  | 0 => 0
  | k + 1 => sumShares c k + shareV c k
theorem share_of {c : Cf} (h : cfOk c) {k : Nat} (hk : (k : Int) < c.n) : shareV c k = c.k / c.n + (if (k : Int) < c.k - c.k / c.n * c.n then 1 else 0) := if_pos ⟨h, by omega, hk⟩
theorem share_most {c : Cf} (h : cfOk c) {k : Nat} (hk : (k : Int) < c.n) : c.k / c.n ≤ shareV c k ∧ shareV c k ≤ c.k / c.n + 1 := by
  rw [share_of h hk]
  split <;> omega
theorem rest_bound {c : Cf} (h : cfOk c) : 0 ≤ c.k - c.k / c.n * c.n ∧ c.k - c.k / c.n * c.n < c.n := by
  have hn : 0 < c.n := by have := h.1; omega
  have e := Int.emod_add_mul_ediv c.k c.n
  have h1 := Int.emod_nonneg c.k (b := c.n) (by omega)
  have h2 := Int.emod_lt_of_pos c.k hn
  rw [Int.mul_comm] at e
  omega
theorem sumShares_is {c : Cf} (h : cfOk c) : ∀ k : Nat, (k : Int) ≤ c.n → sumShares c k = c.k / c.n * k + (if (k : Int) < c.k - c.k / c.n * c.n then (k : Int) else c.k - c.k / c.n * c.n)
  | 0, _ => by
    have := rest_bound h
    simp only [sumShares]
    split <;> simp_all <;> omega
  | k + 1, hk => by
    have ih := sumShares_is h k (by omega)
    have hr := rest_bound h
    have e : c.k / c.n * ((k + 1 : Nat) : Int) = c.k / c.n * k + c.k / c.n := by rw [Int.natCast_succ, Int.mul_add, Int.mul_one]
    rw [sumShares, ih, share_of h (by omega), e]
    split <;> split <;> omega
theorem sumShares_all {c : Cf} (h : cfOk c) (m : Nat) (hm : c.n = (m : Int)) : sumShares c m = c.k := by
  have hr := rest_bound h
  have e := sumShares_is h m (by omega)
  rw [if_neg (by omega), ← hm] at e
  omega
theorem sumShares_bound {c : Cf} (h : cfOk c) : ∀ k : Nat, (k : Int) ≤ c.n → 0 ≤ sumShares c k ∧ sumShares c k ≤ 1099511627777 * k
  | 0, _ => by simp [sumShares]
  | k + 1, hk => by
    have ih := sumShares_bound h k (by omega)
    have := shareV_bound c k
    rw [sumShares]
    omega
theorem at_new {c : Cf} (h : cfOk c) {k : Nat} (hk : (k : Int) < c.n) : at_ (newL c) k = zeroRow c.n.toNat := by
  unfold newL
  rw [if_pos h]
  simp [at_, show k < c.n.toNat by omega]
theorem len_new {c : Cf} (h : cfOk c) : (newL c).length = c.n.toNat := by unfold newL; rw [if_pos h, List.length_replicate]
theorem zero_out (n k : Nat) : (zeroRow n).out[k]?.getD 0 = 0 := by
  unfold zeroRow
  simp only [List.getElem?_replicate]
  split <;> rfl
theorem flow_new {c : Cf} (h : cfOk c) {who : Nat} (hw : (who : Int) < c.n) : ∀ k : Nat, (k : Int) ≤ c.n → flow (newL c) who k = 0
  | 0, _ => rfl
  | k + 1, hk => by
    rw [flow, flow_new h hw k (by omega), at_new h (by omega), at_new h hw, zero_out, zero_out]; rfl
theorem rights_new {c : Cf} (h : cfOk c) {k : Nat} (hk : (k : Int) < c.n) : rightsV c (newL c) k = shareV c k := by
  unfold rightsV
  rw [flow_new h hk _ (by rw [len_new h]; have := h.1; omega), at_new h hk]
  simp [zeroRow]
theorem right_new {c : Cf} (h : cfOk c) : rightOk c (newL c) := by
  have h1 := h.1
  have hc : 0 ≤ c.c := h.2.2.2.2.2.2.2.2.2.1
  refine ⟨h, by rw [len_new h]; omega, fun i hi => ?_, fun i hi => ?_⟩
  · rw [len_new h] at hi
    rw [at_new h (by omega)]
    refine ⟨(mayR_iff _ _ _ _ _).2 ⟨?_, by omega, by omega, by simp [zeroRow], by simp [zeroRow], fun k hk => ?_⟩, by simp [zeroRow]; exact hc⟩
    · simp [zeroRow]; omega
    · rw [zero_out]; unfold mostOf; split <;> omega
  · rw [len_new h] at hi
    rw [rights_new h (by omega)]
    exact (shareV_bound c i).1
theorem of_new {c : Cf} (h : cfOk c) {k : Nat} (hk : (k : Int) < c.n) : ofV c (newL c) k = shareV c k := by
  unfold ofV
  rw [if_pos ⟨right_new h, by omega, hk⟩]
  exact rights_new h hk
theorem sum_new {c : Cf} (h : cfOk c) : ∀ k : Nat, (k : Int) ≤ c.n → sumRights c (newL c) k = sumShares c k
  | 0, _ => rfl
  | k + 1, hk => by rw [sumRights, sumShares, sum_new h k (by omega), rights_new h (by omega)]
theorem value_new {c : Cf} (h : cfOk c) : valueV c (newL c) = c.k := by
  unfold valueV
  rw [if_pos (right_new h), len_new h, sum_new h _ (by have := h.1; omega)]
  exact sumShares_all h _ (by have := h.1; omega)
end Go.Proofs.Ytfpadcfahfanoaa

/- Sums: rights by what each moved and was given, and the value. No program in it. No law is proved here. -/
namespace Go.Proofs.Ytfpadcfahfanoaa
open Go.RowKit

theorem sumN_add (f g : Nat → Int) : ∀ n, sumN (fun i => f i + g i) n = sumN f n + sumN g n
  | 0 => rfl
  | n + 1 => by simp only [sumN]; rw [sumN_add f g n]; omega
theorem sumN_sub (f g : Nat → Int) : ∀ n, sumN (fun i => f i - g i) n = sumN f n - sumN g n
  | 0 => rfl
  | n + 1 => by simp only [sumN]; rw [sumN_sub f g n]; omega
theorem sumN_zero : ∀ n, sumN (fun _ => 0) n = 0
  | 0 => rfl
  | n + 1 => by simp only [sumN]; rw [sumN_zero n]; rfl
theorem sumN_congr {f g : Nat → Int} {n : Nat} (h : ∀ k, k < n → f k = g k) : ∀ k, k ≤ n → sumN f k = sumN g k
  | 0, _ => rfl
  | k + 1, hk => by simp only [sumN]; rw [sumN_congr h k (by omega), h k (by omega)]
/-- row by row, and column by column -/
theorem sumN_swap (f : Nat → Nat → Int) (b : Nat) : ∀ a, sumN (fun w => sumN (fun i => f i w) b) a = sumN (fun i => sumN (fun w => f i w) a) b
  | 0 => by simp only [sumN]; rw [sumN_zero]
  | a + 1 => by
    simp only [sumN]
    rw [sumN_swap f b a, ← sumN_add]
/-- what was moved to who, less what who moved -/
theorem flow_split (l : List Rw) (who : Nat) : ∀ k, flow l who k = sumN (fun i => (at_ l i).out[who]?.getD 0) k - sumN (fun i => (at_ l who).out[i]?.getD 0) k
  | 0 => rfl
  | k + 1 => by
    simp only [flow, sumN]
    rw [flow_split l who k]
    omega
/-- all that was moved came to another one -/
theorem flow_none (l : List Rw) (n : Nat) : sumN (fun who => flow l who n) n = 0 := by
  have e : ∀ k, k ≤ n → sumN (fun who => flow l who n) k = sumN (fun who => sumN (fun i => (at_ l i).out[who]?.getD 0) n - sumN (fun i => (at_ l who).out[i]?.getD 0) n) k :=
    fun k hk => sumN_congr (n := n) (fun j _ => flow_split l j n) k hk
  rw [e n (Nat.le_refl _), sumN_sub, sumN_swap (fun i w => (at_ l i).out[w]?.getD 0)]
  omega
theorem sumRights_is (c : Cf) (l : List Rw) : ∀ k, sumRights c l k = sumShares c k + sumN (fun i => (at_ l i).inc - (at_ l i).use) k + sumN (fun who => flow l who l.length) k
  | 0 => rfl
  | k + 1 => by
    simp only [sumRights, sumShares, sumN]
    rw [sumRights_is c l k]
    unfold rightsV
    omega
/-- the value of right books: what there was at first, and all that was put in, less all that was taken out -/
theorem value_is {c : Cf} {l : List Rw} (h : rightOk c l) : valueV c l = c.k + sumN (fun i => (at_ l i).inc - (at_ l i).use) l.length := by
  unfold valueV
  rw [if_pos h, sumRights_is, flow_none, sumShares_all h.1 l.length h.2.1.symm]
  omega
/-- what a row moved, in all -/
theorem sumW_is {la : List Int} (h16 : la.length ≤ 16) (hb : ∀ k, k < la.length → 0 ≤ la[k]?.getD 0 ∧ la[k]?.getD 0 ≤ 1125899906842624) : ∀ k, k ≤ la.length → sumW (la.take k) = sumN (fun i => la[i]?.getD 0) k
  | 0, _ => rfl
  | k + 1, hk => by
    have ih := sumW_is h16 hb k (by omega)
    have hs := sumN_bound (g := fun i => la[i]?.getD 0) (b := 1125899906842624) (n := la.length) (fun j hj => by
      have := hb j hj
      show -1125899906842624 ≤ la[j]?.getD 0 ∧ la[j]?.getD 0 ≤ 1125899906842624
      omega) k (by omega)
    have h1 := hb k (by omega)
    rw [List.take_succ_eq_append_getElem (by omega), sumW_snoc, ih]
    rw [List.getElem?_eq_getElem (show k < la.length by omega)] at h1
    simp only [Option.getD_some] at h1
    simp only [sumN]
    rw [List.getElem?_eq_getElem (show k < la.length by omega)]
    simp only [Option.getD_some]
    exact IntWalk.wrap64_in _ (by omega)
theorem sent_is {la : List Int} (h16 : la.length ≤ 16) (hb : ∀ k, k < la.length → 0 ≤ la[k]?.getD 0 ∧ la[k]?.getD 0 ≤ 1125899906842624) : sentV la = sumN (fun i => la[i]?.getD 0) la.length := by
  have hf : fits (la.zip (mosts (-1) la.length)) = true := by
    apply fits_yes
    intro x hx
    obtain ⟨k, hk, rfl⟩ := List.getElem_of_mem hx
    rw [List.length_zip, mosts_length] at hk
    rw [zip_getElem (by rw [mosts_length]) k (by omega)]
    have h1 := hb k (by omega)
    have h2 := mosts_at (-1) la.length k (by omega)
    rw [List.getElem?_eq_getElem (show k < la.length by omega)] at h1
    rw [List.getElem?_eq_getElem (show k < (mosts (-1) la.length).length by rw [mosts_length]; omega)] at h2
    simp only [Option.getD_some] at h1 h2
    refine ⟨h1.1, ?_⟩
    show la[k] ≤ (mosts (-1) la.length)[k]'(by rw [mosts_length]; omega)
    rw [h2]
    unfold mostOf
    split
    · omega
    · exact h1.2
  unfold sentV
  rw [if_pos ⟨h16, hf⟩]
  have := sumW_is h16 hb la.length (Nat.le_refl _)
  rwa [List.take_length] at this
/-- rights by what was given and what was sent -/
theorem rights_parts {c : Cf} {l : List Rw} {m : Nat} (hm : m = l.length) (h16 : m ≤ 16) (hF : Fits l) {who : Nat} (hw : who < m) :
    rightsV c l who = shareV c who + (at_ l who).inc + sumN (fun i => (at_ l i).out[who]?.getD 0) m - sentV (at_ l who).out - (at_ l who).use := by
  have h1 := hF who (by omega)
  have h2 : sentV (at_ l who).out = sumN (fun i => (at_ l who).out[i]?.getD 0) m := by
    rw [sent_is (by omega) (fun k hk => h1.2.2.2.2.2 k (by omega)), h1.1, ← hm]
  unfold rightsV
  rw [flow_split, h2, ← hm]
  omega
end Go.Proofs.Ytfpadcfahfanoaa

/- Package row's iterator over numbers and what each may be at most. No law is proved here. -/
namespace Go.Proofs.Ytfpadcfahfanoaa
open Go.RowKit Go.Shelf

attribute [local go_sem] Oper.semAt_some
/-! ### each number, and the most that it may be -/
set_option maxRecDepth 100000 in
set_option maxHeartbeats 1000000 in
theorem limits1_in (F : Fence) (n : Nat) (hF : F.fn 71) (hro : F.round = none) (hn : 1 ≤ n) (l Ba Bb : Nat) (w0 : World) (a : Option Addr) (m ca : Nat) (who : Int) (la : List Int)
    (hla : m = la.length) (hA : Nums w0 (.slice a m ca) la) (J Jx : List (Int × Int) → World → Prop)
    (hY : ∀ pre x W, J pre W → pre.length < m → YieldAt F (n - 1) Try.prog l #[.int .i64 x.1, .int .i64 x.2] W fun e W' =>
      (e = .returned (.bool true) ∧ J (pre ++ [x]) W' ∧ KeptAt w0.heap.size Bb W W') ∨ (e = .returned (.bool false) ∧ Jx (pre ++ [x]) W'))
    (W : World) (hW : Below w0.heap.size w0 W) (hBa : Boxed W Ba 52 (.slice a m ca)) (hBb : Boxed W Bb 3 (.int .i64 who)) (h0 : J [] W) :
    CallsIn F n Try.prog 71 #[.func (.yield l) #[] #[], .pointer (some ⟨Ba, 0, none⟩), .pointer (some ⟨Bb, 0, none⟩)] W fun e W' => (∃ v, e = .returned v) ∧
      ((∃ ys, ys = la.zip (mosts who m) ∧ J ys W') ∨ (∃ pre, (∃ k, k ≤ m ∧ pre = (la.zip (mosts who m)).take k) ∧ Jx pre W')) := by
  have hbig : m ≤ 9223372036854775807 := by rw [hla]; exact hA.1
  have HA := Lib.hid hA; clear hA
  have Ha := Lib.hid hla; clear hla
  have HBb := Lib.hid hBb
  have cA := hBa.cell
  have HW := Lib.hid hW
  clear hBa hBb hW
  refine callsIn_of_wp Try.func71 rfl hF ?_ hro
  simp only [Try.ntmps71, List.size_toArray, List.length_cons, List.length_nil, Nat.reduceAdd, Nat.reduceSub, Array.replicate_succ, Array.replicate_zero, List.push_toArray, List.append_toArray, List.nil_append, List.cons_append]
  gi_wp2
  gi_loopw [9] (fun i wr => ∃ k : Nat, k ≤ m ∧ i = .int .i64 k ∧ J ((la.zip (mosts who m)).take k) wr ∧ Hid (Below w0.heap.size w0 wr) ∧ Hid (Boxed wr Bb 3 (.int .i64 who)))
    (fun i _ => m - (intOf i).toNat)
  case atStart => exact ⟨0, Nat.zero_le _, rfl, by rw [List.take_zero]; exact h0, HW, HBb⟩
  case round =>
    obtain ⟨k, hk, rfl, hJs, Hw, HBr⟩ := hrel
    clear cA
    by_cases hlt : k < m
    · obtain ⟨ba, oa, rfl, _, c0⟩ := HA.out.at (i := k) (by have := Ha.out; omega)
      have d0 := cell_later Hw.out c0
      have dB := HBr.out.cell
      clear c0
      by_cases hw : (k : Int) = who
      all_goals
        obtain ⟨fn, tmps, assign, body, hy, hR⟩ := hY _ (la[k]?.getD 0, mostOf who k) wr hJs (by rw [List.length_take, List.length_zip, mosts_length, ← Ha.out]; omega)
        dsimp only at hy
        rw [← mosts_at who m k hlt, ← zip_take_snoc la (mosts who m) k (by have := Ha.out; omega) (by rw [mosts_length]; exact hlt)] at hR
        first | (have hm0 : mostOf who k = 0 := if_pos hw) | (have hm0 : mostOf who k = 1125899906842624 := if_neg hw)
        rw [hm0] at hy
        clear hm0
        first | (subst hw) | (have hd : ((k : Int) == who) = false := by simpa using hw)
        gi_wp2
        refine hR.mono ?_
        rintro e W3 (⟨rfl, hJ3, hk3⟩ | ⟨rfl, hJx3⟩)
        · have Hw3 := Lib.hid (Hw.out.trans hk3.1)
          have HB3 := Lib.hid (show Boxed W3 Bb 3 (.int .i64 _) from hk3.2.trans HBr.out)
          clear hk3
          gi_wp2
          go_roundw
          case rel => exact ⟨k + 1, by omega, by simp, hJ3, Hw3, HB3⟩
          case measure => simp [intOf]; omega
        · gi_wp2
          refine bodyPost_ret (results_none rfl _ _ _) rfl ?_
          exact ⟨⟨_, rfl⟩, .inr ⟨_, ⟨k + 1, by omega, rfl⟩, hJx3⟩⟩
    · have hkm : k = m := by omega
      have Hkm := Lib.hid hkm; clear hkm
      gi_wp2
      go_end0
      refine ⟨⟨_, rfl⟩, .inl ⟨_, ?_, hJs⟩⟩
      rw [Hkm.out, List.take_of_length_le (by rw [List.length_zip, mosts_length, ← Ha.out]; omega)]
set_option maxHeartbeats 1000000 in
theorem limits_in (F : Fence) (n : Nat) (hF : F.fn 63) (hro : F.round = none) (a : Option Addr) (m c : Nat) (who : Int) (w : World) :
    CallsIn F n Try.prog 63 #[.slice a m c, .int .i64 who] w fun e w' => e = .returned (.func (.func 71) #[] #[.pointer (some ⟨w.heap.size, 0, none⟩), .pointer (some ⟨w.heap.size + 1, 0, none⟩)]) ∧
      w' = (w.alloc (.cells #[.slice a m c] 52)).alloc (.cells #[.int .i64 who] 3) := by
  refine callsIn_of_wp Try.func63 rfl hF ?_ hro
  simp only [Try.ntmps63, List.size_toArray, List.length_cons, List.length_nil, Nat.reduceAdd, Nat.reduceSub, Array.replicate_succ, Array.replicate_zero, List.push_toArray, List.append_toArray, List.nil_append, List.cons_append]
  gi_wp2
  go_ret
  exact ⟨rfl, rfl⟩
theorem limits_stops (F : Fence) (n : Nat) (hF : F.fn 71) (hro : F.round = none) (hn : 1 ≤ n) (Ba Bb : Nat) (w0 : World) (a : Option Addr) (m ca : Nat) (who : Int) (la : List Int)
    (hla : m = la.length) (hA : Nums w0 (.slice a m ca) la) (w : World) (hb0 : Below w0.heap.size w0 w)
    (hBa : Boxed w Ba 52 (.slice a m ca)) (hBb : Boxed w Bb 3 (.int .i64 who)) :
    SeqStopsK F n Try.prog 71 #[.pointer (some ⟨Ba, 0, none⟩), .pointer (some ⟨Bb, 0, none⟩)] (fun x : Int × Int => #[Value.int .i64 x.1, Value.int .i64 x.2]) (KeptAt w0.heap.size Bb) (fun ys => ys = la.zip (mosts who m))
      (fun pre => ∃ k, k ≤ m ∧ pre = (la.zip (mosts who m)).take k) m w := fun l J Jx W hW _ _ hY h0 =>
  limits1_in F n hF hro hn l Ba Bb w0 a m ca who la hla hA J Jx hY W (hb0.trans (hW.mono hb0.size)) ((hW.block Ba hBa.lt).trans hBa) ((hW.block Bb hBb.lt).trans hBb) h0
end Go.Proofs.Ytfpadcfahfanoaa
