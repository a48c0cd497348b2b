/- The document's own, layer 12: an estimate, what is kept, the same numbers. No law is proved here. -/
import Derived.Test.YtbcmoepbegbnpaaWantWords
import Derived.Test.YtbcmoepbegbnpaaAppRun
import Derived.WalkKit
import Derived.ProofKit
import Derived.OpenShut
import Derived.WalkSpells
import Derived.Lib.Hide
import Derived.Deep.Draws
import Derived.Deep.Slices
import Derived.Deep.Fields
import Derived.ChangeSame
import Derived.RegionTactic
import Derived.WalkLawsBesides
import Derived.LoopTactic
import Derived.IntWalk
import Derived.BigRegion
namespace Go.Proofs.Ytbcmoepbegbnpaa
open Go.RowKit

set_option maxRecDepth 100000 in
set_option maxHeartbeats 4000000 in
theorem refnsame_calls (a : Option Addr) (m d : Nat) (b : Option Addr) (n e : Nat) (la lb : List Int) (hm : m = la.length) (hn : n = lb.length) (w : World) (hA : Nums w (.slice a m d) la) (hB : Nums w (.slice b n e) lb) :
    Calls Try.prog 9 #[.slice a m d, .slice b n e] w (Says w (sameN la lb)) := by
  have hbm : m ≤ 9223372036854775807 := by rw [hm]; exact hA.1
  have hbn : n ≤ 9223372036854775807 := by rw [hn]; exact hB.1
  have HA := Lib.hid hA; clear hA
  have HB := Lib.hid hB; clear hB
  have Hm := Lib.hid hm; clear hm
  have Hn := Lib.hid hn; clear hn
  obtain ⟨res, Hres⟩ : ∃ z, Hid (sameN la lb = z) := ⟨_, rfl⟩
  rw [Hres.out]
  by_cases hne : m ≠ n
  · obtain rfl : res = false := Hres.out.symm.trans (decide_eq_false fun h => hne (by rw [Hm.out, Hn.out, h]))
    have hne' : ((m : Int) != (n : Int)) = true := by simp; omega
    go_enter Try.func9, Try.ntmps9
    go_wp2_with fail
    go_ret
    exact ⟨rfl, Below.refl _ _⟩
  have hne' : m = n := by omega
  clear hne
  subst hne'
  go_enter Try.func9, Try.ntmps9
  go_wp2_with fail
  go_loopw [5] (fun x wr => ∃ k : Nat, k ≤ m ∧ x = .int .i64 k ∧ Hid (∀ q, q < k → la[q]?.getD 0 = lb[q]?.getD 0) ∧ Hid (Below w.heap.size w wr)) (fun x _ => m - (intOf x).toNat)
  case atStart => exact ⟨0, Nat.zero_le _, rfl, fun q hq => absurd hq (Nat.not_lt_zero _), Below.refl _ _⟩
  case round =>
    obtain ⟨k, hk, rfl, Hl, Hb⟩ := hrel
    by_cases hlt : k < m
    · obtain ⟨g1, o1, rfl, _, c0⟩ := HA.out.at (i := k) (by have := Hm.out; omega)
      obtain ⟨g2, o2, rfl, _, d0⟩ := HB.out.at (i := k) (by have := Hn.out; omega)
      obtain ⟨x, Hx⟩ : ∃ z, Hid (la[k]?.getD 0 = z) := ⟨_, rfl⟩
      obtain ⟨y, Hy⟩ : ∃ z, Hid (lb[k]?.getD 0 = z) := ⟨_, rfl⟩
      replace c0 := cell_later Hb.out c0
      replace d0 := cell_later Hb.out d0
      rw [Hx.out] at c0
      rw [Hy.out] at d0
      by_cases hxy : x = y
      · subst hxy
        go_wp2_with fail
        go_region
        all_goals go_wp2_with fail
        go_roundw
        case rel => exact ⟨k + 1, by omega, by go_num, (fun q hq => by
          by_cases e : q = k
          · subst e; rw [Hx.out, Hy.out]
          · exact Hl.out q (by omega)), Hb.out.drew⟩
        case measure => simp [intOf]; omega
      · have hxy' : (x != y) = true := bne_iff_ne.2 hxy
        obtain rfl : res = false := Hres.out.symm.trans (decide_eq_false fun h => hxy (by rw [← Hx.out, ← Hy.out, h]))
        clear hxy
        go_wp2_with fail
        go_region
        all_goals go_wp2_with fail
        go_ret
        exact ⟨by rfl, Hb.out.drew⟩
    · have hkm : k = m := by omega
      obtain rfl : res = true := Hres.out.symm.trans (decide_eq_true (nums_ext (by rw [← Hm.out, ← Hn.out]) fun q hq => Hl.out q (by have := Hm.out; omega)))
      have Hkm := Lib.hid hkm; clear hkm
      go_wp2_with fail
      go_ret
      exact ⟨by rfl, Hb.out⟩

set_option maxRecDepth 100000 in
set_option maxHeartbeats 4000000 in
theorem refest_calls (a : Option Addr) (m d : Nat) (l : List Int) (hm : m = l.length) (w : World) (hA : Nums w (.slice a m d) l) :
    Calls Try.prog 8 #[.slice a m d] w (Told2 w (estE l)) := by
  have hbm : m ≤ 9223372036854775807 := by rw [hm]; exact hA.1
  have HA := Lib.hid hA; clear hA
  have Hm := Lib.hid hm; clear hm
  obtain ⟨j, Hj⟩ : ∃ j, Hid (m - 64 = j) := ⟨_, rfl⟩
  have hjm : j ≤ m := by have := Hj.out; omega
  have hE : estE l = runE ((l.take m).drop j) := by
    unfold estE lastN
    rw [Hm.out, List.take_length, ← Hj.out, Hm.out]
  rw [hE]
  clear hE
  go_enter Try.func8, Try.ntmps8
  by_cases h64 : 64 < m
  · have hjI : (m : Int) - 64 = (j : Int) := by have := Hj.out; omega
    have HjI := Lib.hid hjI
    have kw : IntKind.i64.wrap ((m : Int) - 64) = (j : Int) := by rw [hjI]; exact IntWalk.i64_in _ (by omega)
    clear hjI
    go_wp2_with fail
    go_loop [4, 5, 7] (fun s4 s5 s7 => ∃ k x y : Nat, j ≤ k ∧ k ≤ m ∧ s4 = .int .i64 x ∧ s5 = .int .i64 y ∧ s7 = .int .i64 k ∧ Hid (runE ((l.take k).drop j) = (x, y))) (fun _ _ s7 => m - (intOf s7).toNat)
    case atStart => exact ⟨j, 0, 0, Nat.le_refl _, hjm, rfl, rfl, by first | rfl | (rw [HjI.out]; rfl), by show _ = _; rw [List.drop_eq_nil_of_le (by rw [List.length_take]; omega)]; rfl⟩
    case round =>
      obtain ⟨k, x, y, hjk, hk, rfl, rfl, rfl, Hr⟩ := hrel
      have hbd := run_part_bound (l := l) (j := j) (k := k) (by have := Hj.out; omega)
      rw [Hr.out] at hbd
      obtain ⟨hx, hy⟩ := hbd
      simp only at hx hy
      by_cases hlt : k < m
      · obtain ⟨b, off, rfl, _, c0⟩ := HA.out.at (i := k) (by have := Hm.out; omega)
        have hnext := run_part hjk (show k < l.length by have := Hm.out; omega)
        rw [Hr.out] at hnext
        obtain ⟨z, Hz⟩ : ∃ z, Hid (l[k]?.getD 0 = z) := ⟨_, rfl⟩
        rw [Hz.out] at c0 hnext
        have Hnext := Lib.hid hnext; clear hnext
        by_cases hz0 : z = 0
        · subst hz0
          have hnx := Hnext.out
          rw [stepE_zero] at hnx
          have Hnx := Lib.hid hnx; clear hnx
          go_wp2_with fail
          go_round
          case rel => exact ⟨k + 1, x / 2, y / 2, by omega, by omega, by go_num, by go_num, by go_num, Hnx.out⟩
          case measure => simp [intOf]; omega
        · have hz0' : (z == 0) = false := beq_eq_false_iff_ne.2 hz0
          by_cases hz1 : 1 ≤ z
          · by_cases hz2 : z ≤ 1099511627776
            · have hnx := Hnext.out
              rw [stepE_in _ hz1 hz2] at hnx
              obtain ⟨q, rfl⟩ : ∃ q : Nat, z = q := ⟨z.toNat, by omega⟩
              rw [Int.toNat_natCast] at hnx
              have Hnx := Lib.hid hnx; clear hnx
              go_wp2_with fail
              go_round
              case rel => exact ⟨k + 1, x + q, y + 1, by omega, by omega, by go_num, by go_num, by go_num, Hnx.out⟩
              case measure => simp [intOf]; omega
            · have hnx := Hnext.out
              rw [stepE_out _ hz0 (fun h => hz2 h.2)] at hnx
              have Hnx := Lib.hid hnx; clear hnx
              go_wp2_with fail
              go_round
              case rel => exact ⟨k + 1, x, y, by omega, by omega, rfl, rfl, by go_num, Hnx.out⟩
              case measure => simp [intOf]; omega
          · have hnx := Hnext.out
            rw [stepE_out _ hz0 (fun h => hz1 h.1)] at hnx
            have Hnx := Lib.hid hnx; clear hnx
            go_wp2_with fail
            go_round
            case rel => exact ⟨k + 1, x, y, by omega, by omega, rfl, rfl, by go_num, Hnx.out⟩
            case measure => simp [intOf]; omega
      · have hkm : k = m := by omega
        have Hkm := Lib.hid hkm
        have Hfin : Hid (runE ((l.take m).drop j) = (x, y)) := by rw [← hkm]; exact Hr.out
        clear hkm
        go_wp2_with fail
        go_ret2
        exact ⟨by rw [Hfin.out]; rfl, Below.refl _ _⟩
  · have hj0 : j = 0 := by have := Hj.out; omega
    have HjI := Lib.hid hj0
    clear hj0
    go_wp2_with fail
    go_loop [4, 5, 7] (fun s4 s5 s7 => ∃ k x y : Nat, j ≤ k ∧ k ≤ m ∧ s4 = .int .i64 x ∧ s5 = .int .i64 y ∧ s7 = .int .i64 k ∧ Hid (runE ((l.take k).drop j) = (x, y))) (fun _ _ s7 => m - (intOf s7).toNat)
    case atStart => exact ⟨j, 0, 0, Nat.le_refl _, hjm, rfl, rfl, by first | rfl | (rw [HjI.out]; rfl), by show _ = _; rw [List.drop_eq_nil_of_le (by rw [List.length_take]; omega)]; rfl⟩
    case round =>
      obtain ⟨k, x, y, hjk, hk, rfl, rfl, rfl, Hr⟩ := hrel
      have hbd := run_part_bound (l := l) (j := j) (k := k) (by have := Hj.out; omega)
      rw [Hr.out] at hbd
      obtain ⟨hx, hy⟩ := hbd
      simp only at hx hy
      by_cases hlt : k < m
      · obtain ⟨b, off, rfl, _, c0⟩ := HA.out.at (i := k) (by have := Hm.out; omega)
        have hnext := run_part hjk (show k < l.length by have := Hm.out; omega)
        rw [Hr.out] at hnext
        obtain ⟨z, Hz⟩ : ∃ z, Hid (l[k]?.getD 0 = z) := ⟨_, rfl⟩
        rw [Hz.out] at c0 hnext
        have Hnext := Lib.hid hnext; clear hnext
        by_cases hz0 : z = 0
        · subst hz0
          have hnx := Hnext.out
          rw [stepE_zero] at hnx
          have Hnx := Lib.hid hnx; clear hnx
          go_wp2_with fail
          go_round
          case rel => exact ⟨k + 1, x / 2, y / 2, by omega, by omega, by go_num, by go_num, by go_num, Hnx.out⟩
          case measure => simp [intOf]; omega
        · have hz0' : (z == 0) = false := beq_eq_false_iff_ne.2 hz0
          by_cases hz1 : 1 ≤ z
          · by_cases hz2 : z ≤ 1099511627776
            · have hnx := Hnext.out
              rw [stepE_in _ hz1 hz2] at hnx
              obtain ⟨q, rfl⟩ : ∃ q : Nat, z = q := ⟨z.toNat, by omega⟩
              rw [Int.toNat_natCast] at hnx
              have Hnx := Lib.hid hnx; clear hnx
              go_wp2_with fail
              go_round
              case rel => exact ⟨k + 1, x + q, y + 1, by omega, by omega, by go_num, by go_num, by go_num, Hnx.out⟩
              case measure => simp [intOf]; omega
            · have hnx := Hnext.out
              rw [stepE_out _ hz0 (fun h => hz2 h.2)] at hnx
              have Hnx := Lib.hid hnx; clear hnx
              go_wp2_with fail
              go_round
              case rel => exact ⟨k + 1, x, y, by omega, by omega, rfl, rfl, by go_num, Hnx.out⟩
              case measure => simp [intOf]; omega
          · have hnx := Hnext.out
            rw [stepE_out _ hz0 (fun h => hz1 h.1)] at hnx
            have Hnx := Lib.hid hnx; clear hnx
            go_wp2_with fail
            go_round
            case rel => exact ⟨k + 1, x, y, by omega, by omega, rfl, rfl, by go_num, Hnx.out⟩
            case measure => simp [intOf]; omega
      · have hkm : k = m := by omega
        have Hkm := Lib.hid hkm
        have Hfin : Hid (runE ((l.take m).drop j) = (x, y)) := by rw [← hkm]; exact Hr.out
        clear hkm
        go_wp2_with fail
        go_ret2
        exact ⟨by rw [Hfin.out]; rfl, Below.refl _ _⟩
set_option maxRecDepth 100000 in
set_option maxHeartbeats 4000000 in
attribute [local go_sem ↓] run_fine in
theorem refkeep_calls (a : Option Addr) (m d : Nat) (l : List Int) (x : Int) (hm : m = l.length) (hs : m ≤ 1000) (w : World) (hA : Nums w (.slice a m d) l) :
    Calls Try.prog 11 #[.slice a m d, .int .i64 x] w (GaveN w (keepN l x)) := by
  have hb1 := below_box w (.cells #[] 2)
  obtain ⟨v1, w1, r1, q1, b1, _⟩ := run_append_nums (ownN_nil w) (hA.later hb1) hm (by simp only [List.length_nil]; omega) hb1.size
  rw [List.nil_append] at q1
  obtain ⟨A1, C1, rfl, _⟩ := q1.nums (by omega)
  have hb2 := hb1.trans b1
  have hb3 := below_box w1 (.cells #[.int .i64 x] 2)
  obtain ⟨v2, w2, r2, q2, b2, _⟩ := run_append_nums (ownN_later q1 hb3) (one_n64 (Whole.made w1 _ _)) rfl (by simp only [List.length_singleton]; omega) (Nat.le_trans hb2.size hb3.size)
  have hl2 : (l ++ [x]).length = m + 1 := by rw [List.length_append, List.length_singleton, hm]
  obtain ⟨A2, C2, rfl, hn2⟩ := q2.nums (by omega)
  rw [hl2] at hn2 r2
  rw [← hm] at r1 r2
  have Hb2 := Lib.hid ((hb2.trans (hb3.mono hb2.size)).trans b2)
  obtain ⟨hf1, hv1, hw1⟩ := fine_of r1
  obtain ⟨hf2, hv2, hw2⟩ := fine_of r2
  have Hn2 := Lib.hid hn2
  have Hm := Lib.hid hm
  have Hl2 := Lib.hid hl2
  clear r1 r2 q1 q2 hb1 hb2 hb3 b1 b2 hn2 hl2 hA hm
  go_enter Try.func11, Try.ntmps11
  by_cases h64 : m ≤ 63
  · have hk : keepN l x = l ++ [x] := keepN_small x (by have := Hm.out; omega)
    have hd : decide ((64 : Int) < (m : Int) + 1) = false := decide_eq_false (by omega)
    rw [hk]
    clear hk
    go_wp2_with fail
    go_ret
    refine ⟨A2, C2, ?_, ?_, Hb2.out⟩
    · rw [Hl2.out]; rfl
    · rw [Hl2.out]; exact Hn2.out
  · obtain ⟨b2, o2, rfl, _⟩ := Hn2.out.at (i := 0) (by have := Hl2.out; omega)
    have hcap := Hn2.out.cap
    have hlt : m - 63 < C2 := by omega
    have hn3 := Hn2.out.from (j := m - 63) (by omega)
    have hk : keepN l x = (l ++ [x]).drop (m - 63) := by unfold keepN lastN; rw [Hl2.out, show m + 1 - 64 = m - 63 by omega]
    have hkl : (keepN l x).length = m + 1 - (m + 1 - 64) := by rw [hk, List.length_drop, Hl2.out]; omega
    rw [← hk, show m - 63 = m + 1 - 64 by omega, ← hkl] at hn3
    have Hn3 := Lib.hid hn3
    have Hkl := Lib.hid hkl
    have Hcap := Lib.hid hcap
    clear hn3 hkl hk hcap
    go_wp2_with fail
    go_ret
    refine ⟨_, _, ?_, Hn3.out, Hb2.out⟩
    · rw [Hkl.out]; rfl
end Go.Proofs.Ytbcmoepbegbnpaa
