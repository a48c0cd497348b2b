/- Merged texts: RefClaimSame, ClaimStand, RefRightsShort. No law is proved here. -/
import Derived.Test.YtbpmonbehibgdaaMg16
import Derived.WalkKit
import Derived.ProofKit
import Derived.OpenShut
import Derived.WalkSpells
import Derived.Lib.Hide
import Derived.Deep.Draws
import Derived.Deep.Slices
import Derived.Deep.Fields
import Derived.ChangeSame
import Derived.RegionTactic
import Derived.WalkLawsBesides
import Derived.LoopTactic
import Derived.IntWalk
import Derived.Deep.DeepCutAuto
import Derived.Test.YtbpmonbehibgdaaClaimHear
import Derived.Test.YtbpmonbehibgdaaClaimOldest
import Derived.Test.YtbpmonbehibgdaaRefClaimHear
import Derived.Test.YtbpmonbehibgdaaRightsWords
import Derived.Laws.AppendOwn
import Derived.Laws.AppendOwnNone
import Derived.Laws.OwnMore
import Derived.Maps.AppendAt
import Derived.Lib.SmallJoins
import Derived.RangeFuncNested
import Derived.RangeFuncBound
import Derived.RangeFuncLeaves
import Derived.RangeFuncBox
import Derived.Laws.MakeOwn
import Derived.Deep.QuietTactic
import Derived.BigQuiet
import Derived.WalkSmall
import Derived.Deep.RegionHeld3
/- The document's own, layer 14: are notes the same. No law is proved here. -/
namespace Go.Proofs.Ytbpmonbehibgdaa
open Go.RowKit

set_option maxRecDepth 100000 in
set_option maxHeartbeats 4000000 in
theorem refntsame_calls (a : Option Addr) (m d : Nat) (b : Option Addr) (n e : Nat) (la lb : List Nt) (hm : m = la.length) (hn : n = lb.length) (w : World) (hA : Notes w (.slice a m d) la) (hB : Notes w (.slice b n e) lb) :
    Calls Try.prog 14 #[.slice a m d, .slice b n e] w (Says w (sameNt la lb)) := by
  have hbm : m ≤ 9223372036854775807 := by rw [hm]; exact hA.big
  have hbn : n ≤ 9223372036854775807 := by rw [hn]; exact hB.big
  have HA := Lib.hid hA; clear hA
  have HB := Lib.hid hB; clear hB
  have Hm := Lib.hid hm; clear hm
  have Hn := Lib.hid hn; clear hn
  obtain ⟨res, Hres⟩ : ∃ z, Hid (sameNt la lb = z) := ⟨_, rfl⟩
  rw [Hres.out]
  by_cases hne : m ≠ n
  · obtain rfl : res = false := Hres.out.symm.trans (decide_eq_false fun h => hne (by rw [Hm.out, Hn.out, h]))
    have hne' : ((m : Int) != (n : Int)) = true := by simp; omega
    go_enter Try.func14, Try.ntmps14
    go_wp2_with fail
    go_ret
    exact ⟨rfl, Below.refl _ _⟩
  have hne' : m = n := by omega
  clear hne
  subst hne'
  go_enter Try.func14, Try.ntmps14
  go_wp2_with fail
  go_loopw [5] (fun x wr => ∃ k : Nat, k ≤ m ∧ x = .int .i64 k ∧ Hid (∀ q, q < k → ntAt la q = ntAt lb q) ∧ Hid (Below w.heap.size w wr)) (fun x _ => m - (intOf x).toNat)
  case atStart => exact ⟨0, Nat.zero_le _, rfl, fun q hq => absurd hq (Nat.not_lt_zero _), Below.refl _ _⟩
  case round =>
    obtain ⟨k, hk, rfl, Hl, Hb⟩ := hrel
    by_cases hlt : k < m
    · obtain ⟨g1, o1, rfl, hc⟩ := (HA.out.later Hb.out).at (i := k) (by have := Hm.out; omega)
      obtain ⟨g2, o2, rfl, hd⟩ := (HB.out.later Hb.out).at (i := k) (by have := Hn.out; omega)
      obtain ⟨x, Hx⟩ : ∃ z, Hid (ntAt la k = z) := ⟨_, rfl⟩
      obtain ⟨y, Hy⟩ : ∃ z, Hid (ntAt lb k = z) := ⟨_, rfl⟩
      rw [Hx.out] at hc
      rw [Hy.out] at hd
      obtain ⟨c0, c1, c2, c3, c4, c5, c6⟩ := hc
      obtain ⟨d0, d1, d2, d3, d4, d5, d6⟩ := hd
      have hne := fun w => run_neq_nt w x y
      by_cases hxy : x = y
      · rw [decide_eq_true hxy] at hne
        have Hxy := Lib.hid hxy; clear hxy
        go_wp2_with fail
        go_region
        all_goals go_wp2_with fail
        go_roundw
        case rel => exact ⟨k + 1, by omega, by go_num, (fun q hq => by
          by_cases e : q = k
          · subst e; rw [Hx.out, Hy.out]; exact Hxy.out
          · exact Hl.out q (by omega)), Hb.out.drew⟩
        case measure => simp [intOf]; omega
      · rw [decide_eq_false hxy] at hne
        obtain rfl : res = false := Hres.out.symm.trans (decide_eq_false fun h => hxy (by rw [← Hx.out, ← Hy.out, h]))
        clear hxy
        go_wp2_with fail
        go_region
        all_goals go_wp2_with fail
        go_ret
        exact ⟨by rfl, Hb.out.drew⟩
    · have hkm : k = m := by omega
      obtain rfl : res = true := Hres.out.symm.trans (decide_eq_true (ntAt_ext (by rw [← Hm.out, ← Hn.out]) fun q hq => Hl.out q (by have := Hm.out; omega)))
      have Hkm := Lib.hid hkm; clear hkm
      go_wp2_with fail
      go_ret
      exact ⟨by rfl, Hb.out⟩
end Go.Proofs.Ytbpmonbehibgdaa

/- Package claim: all contracts together. No law is proved here. -/

/- The document's own, walked: are books short. No law is proved here. -/
namespace Go.Proofs.Ytbpmonbehibgdaa
open Go.RowKit

set_option maxRecDepth 100000 in
set_option maxHeartbeats 1000000 in
theorem refshort_calls (a : Option Addr) (m d : Nat) (l : List Rw) (hm : m = l.length) (hR : Reach l) (w : World) (hA : Books w (.slice a m d) l) :
    Calls Try.prog 20 #[.slice a m d] w (Says w (shortB l)) := by
  have hbm : m ≤ 17592186044416 := by rw [hm]; exact hR.1
  have HA := Lib.hid hA; clear hA
  have Hm := Lib.hid hm; clear hm
  have HR := Lib.hid hR; clear hR
  obtain ⟨res, Hres⟩ : ∃ z, Hid (shortB l = z) := ⟨_, rfl⟩
  rw [Hres.out]
  go_enter Try.func20, Try.ntmps20
  go_wp2
  go_loop [3, 4] (fun t x => ∃ k T : Nat, k ≤ m ∧ x = .int .i64 k ∧ t = .int .i64 T ∧ T ≤ 17592186045000 ∧ Hid (T = bulk l k)) (fun _ x => m - (intOf x).toNat)
  case atStart => exact ⟨0, m, Nat.zero_le _, rfl, rfl, by omega, Hm.out⟩
  case round =>
    obtain ⟨k, T, hk, rfl, rfl, hT, HT⟩ := hrel
    by_cases h4 : T ≤ 400
    · by_cases hlt : k < m
      · obtain ⟨g1, o1, A1, C1, rfl, _, _, _, c2, _⟩ := HA.out.at (k := k) (by have := Hm.out; omega)
        have hx := HR.out.2 k (by have := Hm.out; omega)
        obtain ⟨x, Hx⟩ : ∃ z, Hid ((at_ l k).out.length = z) := ⟨_, rfl⟩
        rw [Hx.out] at c2 hx
        have k0 : (0 : Int) ≤ (k : Int) := by omega
        have k1 : (k : Int) < (m : Int) := by omega
        go_wp2
        go_round
        case rel => exact ⟨k + 1, T + x, by omega, by go_num, by go_num, by omega, show _ = _ by rw [HT.out, ← Hx.out]; rfl⟩
        case measure => simp [intOf]; omega
      · have hkm : k = m := by omega
        obtain rfl : res = true := Hres.out.symm.trans (decide_eq_true (by rw [← Hm.out, ← hkm, ← HT.out]; exact h4))
        have Hkm := Lib.hid hkm; clear hkm
        go_wp2
        go_ret
        exact ⟨by simp; omega, Below.refl _ _⟩
    · obtain rfl : res = false := Hres.out.symm.trans (decide_eq_false fun h => by
        have := bulk_mono l k l.length (by have := Hm.out; omega)
        have := HT.out
        omega)
      go_wp2
      all_goals go_ret
      all_goals exact ⟨by simp; omega, Below.refl _ _⟩
end Go.Proofs.Ytbpmonbehibgdaa
