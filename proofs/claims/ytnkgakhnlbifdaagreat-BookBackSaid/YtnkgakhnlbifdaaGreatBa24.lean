/- Parts, as far as BookBackCards reaches them, of: OwnBytes, BytesClone, RightsCfg, RightsMay, RightsShareMath, RightsSumMath, RowLimits. No law is proved here. -/
import Derived.Test.YtnkgakhnlbifdaaGreatBa9
import Derived.WalkKit
import Derived.ProofKit
import Derived.OpenShut
import Derived.WalkSpells
import Derived.Laws.AppendOwn
import Derived.Laws.AppendOwnNone
import Derived.Laws.OwnMore
import Derived.Lib.Hide
import Derived.Deep.Draws
import Derived.Deep.Slices
import Derived.Deep.Fields
import Derived.ChangeSame
import Derived.RegionTactic
import Derived.Maps.AppendAt
import Derived.Lib.SmallJoins
import Derived.RangeFuncNested
import Derived.RangeFuncBound
import Derived.RangeFuncLeaves
import Derived.RangeFuncBox
import Derived.Laws.MakeOwn
import Derived.LoopTactic
import Derived.BigRegion
import Derived.Laws.Cover3
import Derived.Test.YtnkgakhnlbifdaaGreatBa0
import Derived.WalkLawsBesides
import Derived.IntWalk
import Derived.WalkSmall
import Derived.Deep.QuietTactic
import Derived.BigQuiet
import Derived.Deep.RegionHeld3
import Derived.Test.YtnkgakhnlbifdaaGreatBa2
import Derived.RangeFuncCalls
import Derived.Shelf.Abstract
import Derived.Shelf.RegionOpen
import Derived.OwnWalkIn
import Derived.TacticsInMore
import Derived.LoopNIn
import Derived.LoopIn
import Derived.Laws.EntriesVeiled
import Derived.Test.YtnkgakhnlbifdaaGreatBa1
namespace Go.Proofs.YtnkgakhnlbifdaaGreat
open Go.RowKit
def OwnB (base : Nat) (w : World) (v : Value) (zs : List Int) : Prop := w.ownsRow base 5 1 v zs.length (zs.map (Value.int .u8)) ∧ ∀ x ∈ zs, 0 ≤ x ∧ x < 256
theorem ownB_nil (base : Nat) (w : World) : OwnB base w (.slice none 0 0) [] := ⟨World.ownsRow_nil _ _ _ _, fun _ h => by cases h⟩
theorem OwnB.later {base : Nat} {w w' : World} {v : Value} {zs : List Int} (h : OwnB base w v zs) (hb : Below w.heap.size w w') : OwnB base w' v zs := ⟨own_later h.1 hb, h.2⟩
theorem Fresh.ownB {base : Nat} {w : World} {v : Value} {zs : List Int} (h : Fresh base 5 w v zs) : OwnB base w v zs := ⟨h.1, h.2.2⟩
theorem OwnB.form {base : Nat} {w : World} {v : Value} {zs : List Int} (h : OwnB base w v zs) (hl : zs.length ≤ 9223372036854775807) : ∃ A C, v = .slice A zs.length C ∧ zs.length ≤ C ∧ Bytes w (.slice A zs.length C) zs := by
 have h1 := h.1
 rcases h1.2 with ⟨rfl, h0⟩ | ⟨g, cap, cur, rfl, hg, hh, hn, hm, h5, h6⟩
 · obtain rfl : zs = [] := List.eq_nil_of_length_eq_zero h0
   exact ⟨none, 0, rfl, Nat.le_refl _, bytes_nil _ _ _ (fun _ => rfl)⟩
 · obtain ⟨_, _, _, _, _, _, hb⟩ := bytes_of_own h1 (by simp) hl h.2
   exact ⟨_, cap, rfl, hn, hb⟩
theorem own_flat (zs ys : List Int) : zs.map (Value.int .u8) = flatCells 1 zs.length (fun i _ => .int .u8 ((zs ++ ys)[i]?.getD 0)) := by
 rw [flat_bytes]
 unfold flatCells
 rw [List.flatMap_def, List.flatMap_def]
 congr 1
 apply List.map_congr_left
 intro i hi
 have := List.mem_range.1 hi
 simp [List.getElem?_append_left this]
set_option maxRecDepth 100000 in
theorem run_append_own {w : World} {base : Nat} {v : Value} {zs : List Int} (hF : OwnB base w v zs) (hbase : base ≤ w.heap.size) {a : Option Addr} {n c : Nat} {ys : List Int} (hB : Bytes w (.slice a n c) ys) (hn : n = ys.length) (hnc : n ≤ c)
 (hroom : zs.length + ys.length ≤ 140737488355300) :
 ∃ v' w', (Builtin.append_ #[24, 24] 24 #[v, .slice a n c]).run Tryz.prog w = .ok v' w' ∧ OwnB base w' v' (zs ++ ys) ∧ Below base w w' ∧ Grew w w' v v' := by
 obtain ⟨i5, hi, hz0, hz1, hz2⟩ := info_parts info_u8
 subst hn
 obtain ⟨v', w', hrun, q1, q2, q3⟩ := run_append_elems (P := Tryz.prog) (w := w) 24 24 base 5 i5 _ 1 1 Tryz.underlying24 hi hz0 hz1 hz2 rfl (by decide)
  v zs.length (fun i _ => .int .u8 ((zs ++ ys)[i]?.getD 0)) (by rw [← own_flat]; exact hF.1) a ys.length c (fun i _ => .int .u8 (ys[i]?.getD 0)) (elems_of_bytes hB rfl hnc) (fun _ _ _ _ => rfl) (by unfold maxLen; omega) (by omega) hbase
 refine ⟨v', w', hrun, ⟨?_, ?_⟩, q2, q3⟩
 · have e2 : flatCells 1 (zs.length + ys.length) (fun i j => if i < zs.length then (fun i (_ : Nat) => Value.int .u8 ((zs ++ ys)[i]?.getD 0)) i j else (fun i (_ : Nat) => Value.int .u8 (ys[i]?.getD 0)) (i - zs.length) j) = flatCells 1 (zs.length + ys.length) (fun i _ => Value.int .u8 ((zs ++ ys)[i]?.getD 0)) := by
    congr 1
    funext i j
    by_cases h : i < zs.length
    · simp [h]
    · simp [h, List.getElem?_append_right (show zs.length ≤ i by omega)]
   rw [e2] at q1
   rw [flat_bytes, List.length_append]
   exact q1
 · intro x hx
   rcases List.mem_append.1 hx with h | h
   · exact hF.2 x h
   · exact hB.2.1 x h
end Go.Proofs.YtnkgakhnlbifdaaGreat
namespace Go.Proofs.YtnkgakhnlbifdaaGreat
open Go.RowKit
attribute [local go_sem ↓] run_fine
def ClonedB (w : World) (zs : List Int) (e : Ending) (w' : World) : Prop := ∃ v, e = .returned v ∧ OwnB w.heap.size w' v zs ∧ Below w.heap.size w w'
set_option maxRecDepth 100000 in
set_option maxHeartbeats 4000000 in
theorem cloneb_calls (a : Option Addr) (n c : Nat) (zs : List Int) (w : World) (hB : Bytes w (.slice a n c) zs) (hn : n = zs.length) (hnc : n ≤ c) (hroom : zs.length ≤ 140737488355000) :
 Calls Tryz.prog 70 #[.slice a n c] w (ClonedB w zs) := by
 cases a with
 | none =>
   have hz : zs = [] ∧ n = 0 ∧ c = 0 := by
    obtain ⟨_, _, ⟨a0, c0, h3, h4, h5⟩ | ⟨b, off, c0, h3, h4⟩⟩ := hB
    · simp only [Value.slice.injEq] at h3
      obtain ⟨rfl, h, rfl⟩ := h3
      exact ⟨h5, h, h4 rfl⟩
    · simp at h3
   obtain ⟨rfl, rfl, rfl⟩ := hz
   clear hB hn hnc hroom
   go_enter Tryz.func70, Tryz.ntmps70
   have heq : ∀ w : World, (binOp .eql 24 (.slice none 0 0) (.slice none 0 0)).run Tryz.prog w = .ok (.bool true) w := by
    intro w
    simp only [binOp]
    simp [run_equal_slice_nil w 24 5 none 0 0 Tryz.underlying24]
   go_wp2
   go_ret
   exact ⟨_, rfl, ownB_nil _ _, Below.refl _ _⟩
 | some ad =>
   have hb1 : Below w.heap.size w (w.alloc (.cells #[] 5)) := below_box w _
   obtain ⟨v1, w1, hrun1, q1, q2, _⟩ := run_append_own (w := w.alloc (.cells #[] 5)) (fresh_empty w).ownB hb1.size (hB.later hb1) hn hnc (by simp; omega)
   obtain ⟨hf1, hv1, hw1⟩ := fine_of hrun1
   rw [List.nil_append] at q1
   have Q1 := Lib.hid q1
   have Hb := Lib.hid (hb1.trans q2)
   clear hrun1 q1 q2 hb1 hB hn hnc hroom
   go_enter Tryz.func70, Tryz.ntmps70
   have heq : ∀ w : World, (binOp .eql 24 (.slice (some ad) n c) (.slice none 0 0)).run Tryz.prog w = .ok (.bool false) w := by
    intro w
    simp only [binOp]
    simp [run_equal_slice_nil w 24 5 (some ad) n c Tryz.underlying24]
   go_wp2
   go_ret
   exact ⟨v1, rfl, Q1.out, Hb.out⟩
end Go.Proofs.YtnkgakhnlbifdaaGreat
namespace Go.Proofs.YtnkgakhnlbifdaaGreat
open Go.RowKit
theorem within_int (v lo hi : Int) (w : World) : Calls Tryz.prog 86 #[.int .i64 v, .int .i64 lo, .int .i64 hi] w (fun e w' => e = .returned (.bool (withinB v lo hi)) ∧ w = w') := by
 by_cases h1 : lo ≤ v
 · by_cases h2 : v ≤ hi
   · rw [withinB_yes ⟨h1, h2⟩]
     go_enter Tryz.func86, Tryz.ntmps86
     go_wp2
     go_ret
     exact ⟨by simp, rfl⟩
   · rw [withinB_no (fun h => h2 h.2)]
     go_enter Tryz.func86, Tryz.ntmps86
     go_wp2
     go_ret
     exact ⟨by simp, rfl⟩
 · rw [withinB_no (fun h => h1 h.1)]
   go_enter Tryz.func86, Tryz.ntmps86
   go_wp2
   go_ret
   exact ⟨by simp, rfl⟩
theorem within_int64 (v lo hi : Int) (w : World) : Calls Tryz.prog 87 #[.int .i64 v, .int .i64 lo, .int .i64 hi] w (fun e w' => e = .returned (.bool (withinB v lo hi)) ∧ w = w') := by
 by_cases h1 : lo ≤ v
 · by_cases h2 : v ≤ hi
   · rw [withinB_yes ⟨h1, h2⟩]
     go_enter Tryz.func87, Tryz.ntmps87
     go_wp2
     go_ret
     exact ⟨by simp, rfl⟩
   · rw [withinB_no (fun h => h2 h.2)]
     go_enter Tryz.func87, Tryz.ntmps87
     go_wp2
     go_ret
     exact ⟨by simp, rfl⟩
 · rw [withinB_no (fun h => h1 h.1)]
   go_enter Tryz.func87, Tryz.ntmps87
   go_wp2
   go_ret
   exact ⟨by simp, rfl⟩
set_option maxRecDepth 100000 in
set_option maxHeartbeats 4000000 in
theorem rMay_calls (c : Cf) (w : World) : Calls Tryz.prog 53 #[cfV c] w (Says w (cfB c)) := by
 obtain ⟨n, q, r, p, k, c⟩ := c
 obtain ⟨b, Hbb⟩ : ∃ b, Hid (cfB ⟨n, q, r, p, k, c⟩ = b) := ⟨_, rfl⟩
 rw [Hbb.out]
 go_enter Tryz.func53, Tryz.ntmps53
 go_wp2_with fail
 refine (within_int n 1 16 _).mono ?_
 rintro e w' ⟨rfl, rfl⟩
 by_cases h0 : 1 ≤ n ∧ n ≤ 16
 rotate_left 1
 · rw [withinB_no h0]
   obtain rfl : b = false := Hbb.out.symm.trans (cfB_no fun h => by
    unfold cfOk at h
    simp only at h
    omega)
   go_wp2_with fail
   go_ret
   exact ⟨by simp, below_box _ _⟩
 rw [withinB_yes h0]
 go_wp2_with fail
 refine (within_int q 1 8 _).mono ?_
 rintro e w' ⟨rfl, rfl⟩
 by_cases h1 : 1 ≤ q ∧ q ≤ 8
 rotate_left 1
 · rw [withinB_no h1]
   obtain rfl : b = false := Hbb.out.symm.trans (cfB_no fun h => by
    unfold cfOk at h
    simp only at h
    omega)
   go_wp2_with fail
   go_ret
   exact ⟨by simp, below_box _ _⟩
 rw [withinB_yes h1]
 go_wp2_with fail
 refine (within_int r 0 8 _).mono ?_
 rintro e w' ⟨rfl, rfl⟩
 by_cases h2 : 0 ≤ r ∧ r ≤ 8
 rotate_left 1
 · rw [withinB_no h2]
   obtain rfl : b = false := Hbb.out.symm.trans (cfB_no fun h => by
    unfold cfOk at h
    simp only at h
    omega)
   go_wp2_with fail
   go_ret
   exact ⟨by simp, below_box _ _⟩
 rw [withinB_yes h2]
 go_wp2_with fail
 refine (within_int p 1 16 _).mono ?_
 rintro e w' ⟨rfl, rfl⟩
 by_cases h3 : 1 ≤ p ∧ p ≤ 16
 rotate_left 1
 · rw [withinB_no h3]
   obtain rfl : b = false := Hbb.out.symm.trans (cfB_no fun h => by
    unfold cfOk at h
    simp only at h
    omega)
   go_wp2_with fail
   go_ret
   exact ⟨by simp, below_box _ _⟩
 rw [withinB_yes h3]
 go_wp2_with fail
 refine (within_int64 k 0 1099511627776 _).mono ?_
 rintro e w' ⟨rfl, rfl⟩
 by_cases h4 : 0 ≤ k ∧ k ≤ 1099511627776
 rotate_left 1
 · rw [withinB_no h4]
   obtain rfl : b = false := Hbb.out.symm.trans (cfB_no fun h => by
    unfold cfOk at h
    simp only at h
    have h12 := Int.mul_nonneg (show 0 ≤ n by omega) (show 0 ≤ c by omega)
    have h13 := Int.mul_le_mul_of_nonneg_right (show 1 ≤ n by omega) (show 0 ≤ c by omega)
    omega)
   go_wp2_with fail
   go_ret
   exact ⟨by simp, below_box _ _⟩
 rw [withinB_yes h4]
 go_wp2_with fail
 refine (within_int64 c 0 1099511627776 _).mono ?_
 rintro e w' ⟨rfl, rfl⟩
 by_cases h5 : 0 ≤ c ∧ c ≤ 1099511627776
 rotate_left 1
 · rw [withinB_no h5]
   obtain rfl : b = false := Hbb.out.symm.trans (cfB_no fun h => by
    unfold cfOk at h
    simp only at h
    have h12 := Int.mul_nonneg (show 0 ≤ n by omega) (show 0 ≤ c by omega)
    have h13 := Int.mul_le_mul_of_nonneg_right (show 1 ≤ n by omega) (show 0 ≤ c by omega)
    omega)
   go_wp2_with fail
   go_ret
   exact ⟨by simp, below_box _ _⟩
 rw [withinB_yes h5]
 have h12 := Int.mul_nonneg (show 0 ≤ n by omega) (show 0 ≤ c by omega)
 have h13 := Int.mul_le_mul_of_nonneg_right (show n ≤ 16 by omega) (show 0 ≤ c by omega)
 have e1 : IntKind.i64.wrap (n * c) = n * c := IntWalk.i64_in _ (by omega)
 have e2 : IntKind.i64.wrap (k + n * c) = k + n * c := IntWalk.i64_in _ (by omega)
 by_cases hk : k + n * c ≤ 1099511627776
 · obtain rfl : b = true := Hbb.out.symm.trans (cfB_yes ⟨by show 1 ≤ n; omega, by show n ≤ 16; omega, by show 1 ≤ q; omega, by show q ≤ 8; omega, by show 0 ≤ r; omega, by show r ≤ 8; omega, by show 1 ≤ p; omega, by show p ≤ 16; omega, by show 0 ≤ k; omega, by show 0 ≤ c; omega, hk⟩)
   clear h12 h13
   go_wp2_with fail
   go_ret
   exact ⟨by simp, below_box _ _⟩
 · obtain rfl : b = false := Hbb.out.symm.trans (cfB_no fun h => hk h.2.2.2.2.2.2.2.2.2.2)
   clear h12 h13
   go_wp2_with fail
   go_ret
   exact ⟨by simp; omega, below_box _ _⟩
end Go.Proofs.YtnkgakhnlbifdaaGreat
namespace Go.Proofs.YtnkgakhnlbifdaaGreat
open Go.RowKit
theorem among_calls (c : Cf) (who : Int) (w : World) : Calls Tryz.prog 114 #[cfV c, .int .i64 who] w (Says w (amongB c who)) := by
 obtain ⟨n, q, r, p, k, cc⟩ := c
 by_cases h1 : 0 ≤ who
 · by_cases h2 : who < n
   · rw [amongB_yes ⟨h1, h2⟩]
     go_enter Tryz.func114, Tryz.ntmps114
     go_wp2
     go_ret
     exact ⟨by simp, below_box _ _⟩
   · rw [amongB_no (fun h => h2 h.2)]
     go_enter Tryz.func114, Tryz.ntmps114
     go_wp2
     go_ret
     exact ⟨by simp, below_box _ _⟩
 · rw [amongB_no (fun h => h1 h.1)]
   go_enter Tryz.func114, Tryz.ntmps114
   go_wp2
   go_ret
   exact ⟨by simp, below_box _ _⟩
set_option maxRecDepth 100000 in
set_option maxHeartbeats 4000000 in
theorem rShare_calls (c : Cf) (who : Int) (w : World) : Calls Tryz.prog 98 #[cfV c, .int .i64 who] w (Num w (shareV c who)) := by
 have HW := Lib.hid (Whole.made w 23 (cfCells c))
 have Hb0 := Lib.hid (below_box w (.cells (cfCells c) 23))
 obtain ⟨n, q, r, p, k, cc⟩ := c
 obtain ⟨ok, Hok⟩ : ∃ z, Hid (cfB ⟨n, q, r, p, k, cc⟩ = z) := ⟨_, rfl⟩
 obtain ⟨v, Hv⟩ : ∃ v, Hid (shareV ⟨n, q, r, p, k, cc⟩ who = v) := ⟨_, rfl⟩
 rw [Hv.out]
 go_enter Tryz.func98, Tryz.ntmps98
 go_wp2_with fail
 refine (rMay_calls ⟨n, q, r, p, k, cc⟩ _).mono ?_
 rintro e w1 ⟨rfl, hb⟩
 rw [Hok.out]
 have Hb1 := Lib.hid (held_next Hb0.out hb)
 have HW1 := Lib.hid (HW.out.later hb HW.out.lt)
 clear hb
 obtain ⟨d0, d1, d2, d3, d4, d5⟩ := config_cells HW1.out
 simp only at d0 d1 d2 d3 d4 d5
 cases ok with
 | false =>
   obtain rfl : v = 0 := Hv.out.symm.trans (shareV_no fun h => by
    have := cfB_yes h.1
    rw [Hok.out] at this
    cases this)
   go_wp2_with fail
   go_ret
   exact ⟨by rfl, Hb1.out⟩
 | true =>
 go_wp2_with fail
 refine (among_calls ⟨n, q, r, p, k, cc⟩ who _).mono ?_
 rintro e w2 ⟨rfl, hb⟩
 have Hb2 := Lib.hid (held_next Hb1.out hb)
 have HW2 := Lib.hid (HW1.out.later hb HW1.out.lt)
 clear hb d0 d1 d2 d3 d4 d5
 have d0 : w2.cell? ⟨w.heap.size, 0, none⟩ = some (.int .i64 n) := HW2.out.cell 0
 have d4 : w2.cell? ⟨w.heap.size, 4, none⟩ = some (.int .i64 k) := HW2.out.cell 4
 by_cases ha : 0 ≤ who ∧ who < n
 rotate_left 1
 · rw [amongB_no ha]
   obtain rfl : v = 0 := Hv.out.symm.trans (shareV_no fun h => ha h.2)
   go_wp2_with fail
   go_ret
   exact ⟨by rfl, Hb2.out⟩
 rw [amongB_yes ha]
 have hok := cfB_ok Hok.out
 have hv : v = k / n + (if who < k - k / n * n then 1 else 0) := Hv.out.symm.trans (if_pos ⟨hok, ha⟩)
 obtain ⟨g1, g2, _, _, _, _, _, _, g9, g10, g11⟩ := hok
 obtain ⟨ha0, ha1⟩ := ha
 simp only at g1 g2 g9 g10 g11
 have hkk : k ≤ 1099511627776 := by
  have := Int.mul_nonneg (show 0 ≤ n by omega) g10
  omega
 clear g10 g11
 have hq0 : 0 ≤ k / n := Int.ediv_nonneg g9 (by omega)
 have hqs : k / n ≤ k := Int.ediv_le_self n g9
 rw [← rem_eq] at hv
 have hr0 : 0 ≤ k % n := Int.emod_nonneg k (by omega)
 have hr1 : k % n < n := Int.emod_lt_of_pos k (by omega)
 obtain ⟨s, hs⟩ : ∃ s, k / n = s := ⟨_, rfl⟩
 obtain ⟨m, hm⟩ : ∃ m, k % n = m := ⟨_, rfl⟩
 rw [hs] at hq0 hqs hv
 rw [hm] at hr0 hr1 hv
 have Hv2 := Lib.hid hv; clear hv
 have hn0 : n ≠ 0 := by omega
 by_cases hw : who < m
 · have Hv1 : Hid (v = s + 1) := by rw [Hv2.out, if_pos hw]; exact rfl
   go_wp2_with fail
   go_ret
   exact ⟨by rw [Hv1.out]; rfl, Hb2.out⟩
 · have Hv1 : Hid (v = s) := by rw [Hv2.out, if_neg hw, Int.add_zero]; exact rfl
   go_wp2_with fail
   go_ret
   exact ⟨by rw [Hv1.out, ← hs]; rfl, Hb2.out⟩
end Go.Proofs.YtnkgakhnlbifdaaGreat
namespace Go.Proofs.YtnkgakhnlbifdaaGreat
open Go.RowKit
theorem flow_split (l : List Rw) (who : Nat) : ∀ k, flow l who k = sumN (fun i => (at_ l i).out[who]?.getD 0) k - sumN (fun i => (at_ l who).out[i]?.getD 0) k
 | 0 => rfl
 | k + 1 => by
   simp only [flow, sumN]
   rw [flow_split l who k]
   omega
theorem sumW_is {la : List Int} (h16 : la.length ≤ 16) (hb : ∀ k, k < la.length → 0 ≤ la[k]?.getD 0 ∧ la[k]?.getD 0 ≤ 1125899906842624) : ∀ k, k ≤ la.length → sumW (la.take k) = sumN (fun i => la[i]?.getD 0) k
 | 0, _ => rfl
 | k + 1, hk => by
   have ih := sumW_is h16 hb k (by omega)
   have hs := sumN_bound (g := fun i => la[i]?.getD 0) (b := 1125899906842624) (n := la.length) (fun j hj => by
    have := hb j hj
    show -1125899906842624 ≤ la[j]?.getD 0 ∧ la[j]?.getD 0 ≤ 1125899906842624
    omega) k (by omega)
   have h1 := hb k (by omega)
   rw [List.take_succ_eq_append_getElem (by omega), sumW_snoc, ih]
   rw [List.getElem?_eq_getElem (show k < la.length by omega)] at h1
   simp only [Option.getD_some] at h1
   simp only [sumN]
   rw [List.getElem?_eq_getElem (show k < la.length by omega)]
   simp only [Option.getD_some]
   exact IntWalk.wrap64_in _ (by omega)
theorem sent_is {la : List Int} (h16 : la.length ≤ 16) (hb : ∀ k, k < la.length → 0 ≤ la[k]?.getD 0 ∧ la[k]?.getD 0 ≤ 1125899906842624) : sentV la = sumN (fun i => la[i]?.getD 0) la.length := by
 have hf : fits (la.zip (mosts (-1) la.length)) = true := by
  apply fits_yes
  intro x hx
  obtain ⟨k, hk, rfl⟩ := List.getElem_of_mem hx
  rw [List.length_zip, mosts_length] at hk
  rw [zip_getElem (by rw [mosts_length]) k (by omega)]
  have h1 := hb k (by omega)
  have h2 := mosts_at (-1) la.length k (by omega)
  rw [List.getElem?_eq_getElem (show k < la.length by omega)] at h1
  rw [List.getElem?_eq_getElem (show k < (mosts (-1) la.length).length by rw [mosts_length]; omega)] at h2
  simp only [Option.getD_some] at h1 h2
  refine ⟨h1.1, ?_⟩
  show la[k] ≤ (mosts (-1) la.length)[k]'(by rw [mosts_length]; omega)
  rw [h2]
  unfold mostOf
  split
  · omega
  · exact h1.2
 unfold sentV
 rw [if_pos ⟨h16, hf⟩]
 have := sumW_is h16 hb la.length (Nat.le_refl _)
 rwa [List.take_length] at this
theorem rights_parts {c : Cf} {l : List Rw} {m : Nat} (hm : m = l.length) (h16 : m ≤ 16) (hF : Fits l) {who : Nat} (hw : who < m) :
 rightsV c l who = shareV c who + (at_ l who).inc + sumN (fun i => (at_ l i).out[who]?.getD 0) m - sentV (at_ l who).out - (at_ l who).use := by
 have h1 := hF who (by omega)
 have h2 : sentV (at_ l who).out = sumN (fun i => (at_ l who).out[i]?.getD 0) m := by
  rw [sent_is (by omega) (fun k hk => h1.2.2.2.2.2 k (by omega)), h1.1, ← hm]
 unfold rightsV
 rw [flow_split, h2, ← hm]
 omega
end Go.Proofs.YtnkgakhnlbifdaaGreat
namespace Go.Proofs.YtnkgakhnlbifdaaGreat
open Go.RowKit Go.Shelf
attribute [local go_sem] Oper.semAt_some
set_option maxRecDepth 100000 in
set_option maxHeartbeats 1000000 in
theorem limits1_in (F : Fence) (n : Nat) (hF : F.fn 112) (hro : F.round = none) (hn : 1 ≤ n) (l Ba Bb : Nat) (w0 : World) (a : Option Addr) (m ca : Nat) (who : Int) (la : List Int)
 (hla : m = la.length) (hA : Nums w0 (.slice a m ca) la) (J Jx : List (Int × Int) → World → Prop)
 (hY : ∀ pre x W, J pre W → pre.length < m → YieldAt F (n - 1) Tryz.prog l #[.int .i64 x.1, .int .i64 x.2] W fun e W' =>
  (e = .returned (.bool true) ∧ J (pre ++ [x]) W' ∧ KeptAt w0.heap.size Bb W W') ∨ (e = .returned (.bool false) ∧ Jx (pre ++ [x]) W'))
 (W : World) (hW : Below w0.heap.size w0 W) (hBa : Boxed W Ba 33 (.slice a m ca)) (hBb : Boxed W Bb 3 (.int .i64 who)) (h0 : J [] W) :
 CallsIn F n Tryz.prog 112 #[.func (.yield l) #[] #[], .pointer (some ⟨Ba, 0, none⟩), .pointer (some ⟨Bb, 0, none⟩)] W fun e W' => (∃ v, e = .returned v) ∧
  ((∃ ys, ys = la.zip (mosts who m) ∧ J ys W') ∨ (∃ pre, (∃ k, k ≤ m ∧ pre = (la.zip (mosts who m)).take k) ∧ Jx pre W')) := by
 have hbig : m ≤ 9223372036854775807 := by rw [hla]; exact hA.1
 have HA := Lib.hid hA; clear hA
 have Ha := Lib.hid hla; clear hla
 have HBb := Lib.hid hBb
 have cA := hBa.cell
 have HW := Lib.hid hW
 clear hBa hBb hW
 refine callsIn_of_wp Tryz.func112 rfl hF ?_ hro
 simp only [Tryz.ntmps112, List.size_toArray, List.length_cons, List.length_nil, Nat.reduceAdd, Nat.reduceSub, Array.replicate_succ, Array.replicate_zero, List.push_toArray, List.append_toArray, List.nil_append, List.cons_append]
 gi_wp2
 gi_loopw [9] (fun i wr => ∃ k : Nat, k ≤ m ∧ i = .int .i64 k ∧ J ((la.zip (mosts who m)).take k) wr ∧ Hid (Below w0.heap.size w0 wr) ∧ Hid (Boxed wr Bb 3 (.int .i64 who)))
  (fun i _ => m - (intOf i).toNat)
 case atStart => exact ⟨0, Nat.zero_le _, rfl, by rw [List.take_zero]; exact h0, HW, HBb⟩
 case round =>
  obtain ⟨k, hk, rfl, hJs, Hw, HBr⟩ := hrel
  clear cA
  by_cases hlt : k < m
  · obtain ⟨ba, oa, rfl, _, c0⟩ := HA.out.at (i := k) (by have := Ha.out; omega)
    have d0 := cell_later Hw.out c0
    have dB := HBr.out.cell
    clear c0
    by_cases hw : (k : Int) = who
    all_goals
     obtain ⟨fn, tmps, assign, body, hy, hR⟩ := hY _ (la[k]?.getD 0, mostOf who k) wr hJs (by rw [List.length_take, List.length_zip, mosts_length, ← Ha.out]; omega)
     dsimp only at hy
     rw [← mosts_at who m k hlt, ← zip_take_snoc la (mosts who m) k (by have := Ha.out; omega) (by rw [mosts_length]; exact hlt)] at hR
     first | (have hm0 : mostOf who k = 0 := if_pos hw) | (have hm0 : mostOf who k = 1125899906842624 := if_neg hw)
     rw [hm0] at hy
     clear hm0
     first | (subst hw) | (have hd : ((k : Int) == who) = false := by simpa using hw)
     gi_wp2
     refine hR.mono ?_
     rintro e W3 (⟨rfl, hJ3, hk3⟩ | ⟨rfl, hJx3⟩)
     · have Hw3 := Lib.hid (Hw.out.trans hk3.1)
       have HB3 := Lib.hid (show Boxed W3 Bb 3 (.int .i64 _) from hk3.2.trans HBr.out)
       clear hk3
       gi_wp2
       go_roundw
       case rel => exact ⟨k + 1, by omega, by simp, hJ3, Hw3, HB3⟩
       case measure => simp [intOf]; omega
     · gi_wp2
       refine bodyPost_ret (results_none rfl _ _ _) rfl ?_
       exact ⟨⟨_, rfl⟩, .inr ⟨_, ⟨k + 1, by omega, rfl⟩, hJx3⟩⟩
  · have hkm : k = m := by omega
    have Hkm := Lib.hid hkm; clear hkm
    gi_wp2
    go_end0
    refine ⟨⟨_, rfl⟩, .inl ⟨_, ?_, hJs⟩⟩
    rw [Hkm.out, List.take_of_length_le (by rw [List.length_zip, mosts_length, ← Ha.out]; omega)]
set_option maxHeartbeats 1000000 in
theorem limits_in (F : Fence) (n : Nat) (hF : F.fn 94) (hro : F.round = none) (a : Option Addr) (m c : Nat) (who : Int) (w : World) :
 CallsIn F n Tryz.prog 94 #[.slice a m c, .int .i64 who] w fun e w' => e = .returned (.func (.func 112) #[] #[.pointer (some ⟨w.heap.size, 0, none⟩), .pointer (some ⟨w.heap.size + 1, 0, none⟩)]) ∧
  w' = (w.alloc (.cells #[.slice a m c] 33)).alloc (.cells #[.int .i64 who] 3) := by
 refine callsIn_of_wp Tryz.func94 rfl hF ?_ hro
 simp only [Tryz.ntmps94, List.size_toArray, List.length_cons, List.length_nil, Nat.reduceAdd, Nat.reduceSub, Array.replicate_succ, Array.replicate_zero, List.push_toArray, List.append_toArray, List.nil_append, List.cons_append]
 gi_wp2
 go_ret
 exact ⟨rfl, rfl⟩
theorem limits_stops (F : Fence) (n : Nat) (hF : F.fn 112) (hro : F.round = none) (hn : 1 ≤ n) (Ba Bb : Nat) (w0 : World) (a : Option Addr) (m ca : Nat) (who : Int) (la : List Int)
 (hla : m = la.length) (hA : Nums w0 (.slice a m ca) la) (w : World) (hb0 : Below w0.heap.size w0 w)
 (hBa : Boxed w Ba 33 (.slice a m ca)) (hBb : Boxed w Bb 3 (.int .i64 who)) :
 SeqStopsK F n Tryz.prog 112 #[.pointer (some ⟨Ba, 0, none⟩), .pointer (some ⟨Bb, 0, none⟩)] (fun x : Int × Int => #[Value.int .i64 x.1, Value.int .i64 x.2]) (KeptAt w0.heap.size Bb) (fun ys => ys = la.zip (mosts who m))
  (fun pre => ∃ k, k ≤ m ∧ pre = (la.zip (mosts who m)).take k) m w := fun l J Jx W hW _ _ hY h0 =>
 limits1_in F n hF hro hn l Ba Bb w0 a m ca who la hla hA J Jx hY W (hb0.trans (hW.mono hb0.size)) ((hW.block Ba hBa.lt).trans hBa) ((hW.block Bb hBb.lt).trans hBb) h0
end Go.Proofs.YtnkgakhnlbifdaaGreat
