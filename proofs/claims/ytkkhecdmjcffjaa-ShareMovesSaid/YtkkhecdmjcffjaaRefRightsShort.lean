/- The document's own, walked: are books short. No law is proved here. -/
import Derived.Test.YtkkhecdmjcffjaaRightsWords
import Derived.WalkKit
import Derived.ProofKit
import Derived.OpenShut
import Derived.WalkSpells
import Derived.Laws.AppendOwn
import Derived.Laws.AppendOwnNone
import Derived.Laws.OwnMore
import Derived.Lib.Hide
import Derived.Deep.Draws
import Derived.Deep.Slices
import Derived.Deep.Fields
import Derived.ChangeSame
import Derived.RegionTactic
import Derived.Maps.AppendAt
import Derived.Lib.SmallJoins
import Derived.RangeFuncNested
import Derived.RangeFuncBound
import Derived.RangeFuncLeaves
import Derived.RangeFuncBox
import Derived.Laws.MakeOwn
import Derived.Deep.QuietTactic
import Derived.BigQuiet
import Derived.LoopTactic
import Derived.WalkSmall
import Derived.Deep.RegionHeld3
namespace Go.Proofs.Ytkkhecdmjcffjaa
open Go.RowKit

set_option maxRecDepth 100000 in
set_option maxHeartbeats 1000000 in
theorem refshort_calls (a : Option Addr) (m d : Nat) (l : List Rw) (hm : m = l.length) (hR : Reach l) (w : World) (hA : Books w (.slice a m d) l) :
    Calls Try.prog 7 #[.slice a m d] w (Says w (shortB l)) := by
  have hbm : m ≤ 17592186044416 := by rw [hm]; exact hR.1
  have HA := Lib.hid hA; clear hA
  have Hm := Lib.hid hm; clear hm
  have HR := Lib.hid hR; clear hR
  obtain ⟨res, Hres⟩ : ∃ z, Hid (shortB l = z) := ⟨_, rfl⟩
  rw [Hres.out]
  go_enter Try.func7, Try.ntmps7
  go_wp2
  go_loop [3, 4] (fun t x => ∃ k T : Nat, k ≤ m ∧ x = .int .i64 k ∧ t = .int .i64 T ∧ T ≤ 17592186045000 ∧ Hid (T = bulk l k)) (fun _ x => m - (intOf x).toNat)
  case atStart => exact ⟨0, m, Nat.zero_le _, rfl, rfl, by omega, Hm.out⟩
  case round =>
    obtain ⟨k, T, hk, rfl, rfl, hT, HT⟩ := hrel
    by_cases h4 : T ≤ 400
    · by_cases hlt : k < m
      · obtain ⟨g1, o1, A1, C1, rfl, _, _, _, c2, _⟩ := HA.out.at (k := k) (by have := Hm.out; omega)
        have hx := HR.out.2 k (by have := Hm.out; omega)
        obtain ⟨x, Hx⟩ : ∃ z, Hid ((at_ l k).out.length = z) := ⟨_, rfl⟩
        rw [Hx.out] at c2 hx
        have k0 : (0 : Int) ≤ (k : Int) := by omega
        have k1 : (k : Int) < (m : Int) := by omega
        go_wp2
        go_round
        case rel => exact ⟨k + 1, T + x, by omega, by go_num, by go_num, by omega, show _ = _ by rw [HT.out, ← Hx.out]; rfl⟩
        case measure => simp [intOf]; omega
      · have hkm : k = m := by omega
        obtain rfl : res = true := Hres.out.symm.trans (decide_eq_true (by rw [← Hm.out, ← hkm, ← HT.out]; exact h4))
        have Hkm := Lib.hid hkm; clear hkm
        go_wp2
        go_ret
        exact ⟨by simp; omega, Below.refl _ _⟩
    · obtain rfl : res = false := Hres.out.symm.trans (decide_eq_false fun h => by
        have := bulk_mono l k l.length (by have := Hm.out; omega)
        have := HT.out
        omega)
      go_wp2
      all_goals go_ret
      all_goals exact ⟨by simp; omega, Below.refl _ _⟩
end Go.Proofs.Ytkkhecdmjcffjaa
