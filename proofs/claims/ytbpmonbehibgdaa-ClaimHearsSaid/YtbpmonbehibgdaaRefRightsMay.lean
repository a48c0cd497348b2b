/- The document's own, walked: may a config be. No law is proved here. -/
import Derived.Test.YtbpmonbehibgdaaMg1
import Derived.WalkKit
import Derived.ProofKit
import Derived.OpenShut
import Derived.WalkSpells
import Derived.Laws.AppendOwn
import Derived.Laws.AppendOwnNone
import Derived.Laws.OwnMore
import Derived.Lib.Hide
import Derived.Deep.Draws
import Derived.Deep.Slices
import Derived.Deep.Fields
import Derived.ChangeSame
import Derived.RegionTactic
import Derived.Maps.AppendAt
import Derived.Lib.SmallJoins
import Derived.WalkLawsBesides
import Derived.LoopTactic
import Derived.IntWalk
namespace Go.Proofs.Ytbpmonbehibgdaa
open Go.RowKit

set_option maxRecDepth 100000 in
set_option maxHeartbeats 4000000 in
theorem refcfg_no (n q r p k c : Int) (w : World) (h : n < 1 ∨ 16 < n ∨ q < 1 ∨ 8 < q ∨ r < 0 ∨ 8 < r ∨ p < 1 ∨ 16 < p ∨ k < 0 ∨ c < 0) : Calls Try.prog 26 #[cfV ⟨n, q, r, p, k, c⟩] w (Says w false) := by
  by_cases h1 : n < 1
  · clear h
    go_enter Try.func26, Try.ntmps26
    go_wp2
    go_ret
    exact ⟨rfl, below_box _ _⟩
  by_cases h2 : 16 < n
  · clear h
    go_enter Try.func26, Try.ntmps26
    go_wp2
    go_ret
    exact ⟨rfl, below_box _ _⟩
  by_cases h3 : q < 1
  · clear h
    go_enter Try.func26, Try.ntmps26
    go_wp2
    go_ret
    exact ⟨rfl, below_box _ _⟩
  by_cases h4 : 8 < q
  · clear h
    go_enter Try.func26, Try.ntmps26
    go_wp2
    go_ret
    exact ⟨rfl, below_box _ _⟩
  by_cases h5 : r < 0
  · clear h
    go_enter Try.func26, Try.ntmps26
    go_wp2
    go_ret
    exact ⟨rfl, below_box _ _⟩
  by_cases h6 : 8 < r
  · clear h
    go_enter Try.func26, Try.ntmps26
    go_wp2
    go_ret
    exact ⟨rfl, below_box _ _⟩
  by_cases h7 : p < 1
  · clear h
    go_enter Try.func26, Try.ntmps26
    go_wp2
    go_ret
    exact ⟨rfl, below_box _ _⟩
  by_cases h8 : 16 < p
  · clear h
    go_enter Try.func26, Try.ntmps26
    go_wp2
    go_ret
    exact ⟨rfl, below_box _ _⟩
  by_cases h9 : k < 0
  · clear h
    go_enter Try.func26, Try.ntmps26
    go_wp2
    go_ret
    exact ⟨rfl, below_box _ _⟩
  by_cases h10 : c < 0
  · clear h
    go_enter Try.func26, Try.ntmps26
    go_wp2
    go_ret
    exact ⟨rfl, below_box _ _⟩
  omega
set_option maxRecDepth 100000 in
set_option maxHeartbeats 1000000 in
theorem refcfg_loop (n q r p k c : Int) (w : World) (h1 : 1 ≤ n) (h2 : n ≤ 16) (h3 : 1 ≤ q) (h4 : q ≤ 8) (h5 : 0 ≤ r) (h6 : r ≤ 8) (h7 : 1 ≤ p) (h8 : p ≤ 16) (h9 : 0 ≤ k) (h10 : 0 ≤ c) :
    Calls Try.prog 26 #[cfV ⟨n, q, r, p, k, c⟩] w (Says w (cfB ⟨n, q, r, p, k, c⟩)) := by
  obtain ⟨b, Hbb⟩ : ∃ b, Hid (cfB ⟨n, q, r, p, k, c⟩ = b) := ⟨_, rfl⟩
  rw [Hbb.out]
  go_enter Try.func26, Try.ntmps26
  go_wp2
  go_loop [3, 4] (fun l i => ∃ (j : Nat) (L : Int), (j : Int) ≤ n ∧ i = .int .i64 j ∧ l = .int .i64 L ∧ 0 ≤ L ∧ L ≤ 1099511627776 ∧ Hid (L = 1099511627776 - (j : Int) * c)) (fun _ i => (n - intOf i).toNat)
  case atStart => exact ⟨0, 1099511627776, by omega, rfl, rfl, by omega, by omega, show _ = _ by simp⟩
  case round =>
    obtain ⟨j, L, hj, rfl, rfl, hL0, hL1, HL⟩ := hrel
    by_cases hlt : (j : Int) < n
    · by_cases hc : L < c
      · obtain rfl : b = false := by
          refine Hbb.out.symm.trans (cfB_no fun h => ?_)
          have h11 := h.2.2.2.2.2.2.2.2.2.2
          have h12 := mul_step (k := (j : Int)) hlt h10
          have h13 := HL.out
          simp only at h11
          omega
        go_wp2
        go_ret
        exact ⟨rfl, below_box _ _⟩
      · have hs := mul_succ' j c
        have Hs := Lib.hid hs; clear hs
        go_wp2
        go_round
        case rel => exact ⟨j + 1, L - c, by omega, by go_num, rfl, by omega, by omega, show _ = _ by rw [Hs.out, HL.out]; omega⟩
        case measure => simp [intOf]; omega
    · have hjn : n = (j : Int) := by omega
      have HL' := HL.out
      rw [← hjn] at HL'
      by_cases hk : k ≤ L
      · obtain rfl : b = true := Hbb.out.symm.trans (cfB_yes ⟨h1, h2, h3, h4, h5, h6, h7, h8, h9, h10, by show k + n * c ≤ _; omega⟩)
        clear HL'
        have Hjn := Lib.hid hjn; clear hjn
        go_wp2
        go_ret
        exact ⟨by simp, below_box _ _⟩
      · obtain rfl : b = false := Hbb.out.symm.trans (cfB_no fun h => by
          have h11 := h.2.2.2.2.2.2.2.2.2.2
          simp only at h11
          omega)
        clear HL'
        have Hjn := Lib.hid hjn; clear hjn
        go_wp2
        go_ret
        exact ⟨by simp, below_box _ _⟩
theorem refcfg_calls (c : Cf) (w : World) : Calls Try.prog 26 #[cfV c] w (Says w (cfB c)) := by
  obtain ⟨n, q, r, p, k, cc⟩ := c
  by_cases h : n < 1 ∨ 16 < n ∨ q < 1 ∨ 8 < q ∨ r < 0 ∨ 8 < r ∨ p < 1 ∨ 16 < p ∨ k < 0 ∨ cc < 0
  · rw [cfB_no (fun h' => by unfold cfOk at h'; simp only at h'; omega)]
    exact refcfg_no n q r p k cc w h
  · exact refcfg_loop n q r p k cc w (by omega) (by omega) (by omega) (by omega) (by omega) (by omega) (by omega) (by omega) (by omega) (by omega)
end Go.Proofs.Ytbpmonbehibgdaa
