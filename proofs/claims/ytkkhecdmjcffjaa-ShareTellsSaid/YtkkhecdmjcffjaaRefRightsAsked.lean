/- The document's own, walked: the first errors of an ask. No law is proved here. -/
import Derived.Test.YtkkhecdmjcffjaaRefRightsRight
import Derived.WalkKit
import Derived.ProofKit
import Derived.OpenShut
import Derived.WalkSpells
import Derived.Laws.AppendOwn
import Derived.Laws.AppendOwnNone
import Derived.Laws.OwnMore
import Derived.Lib.Hide
import Derived.Deep.Draws
import Derived.Deep.Slices
import Derived.Deep.Fields
import Derived.ChangeSame
import Derived.RegionTactic
import Derived.Maps.AppendAt
import Derived.Lib.SmallJoins
import Derived.WalkLawsBesides
import Derived.LoopTactic
import Derived.IntWalk
import Derived.WalkSmall
import Derived.Deep.QuietTactic
import Derived.BigQuiet
import Derived.Deep.RegionHeld3
import Derived.RangeFuncNested
import Derived.RangeFuncBound
import Derived.RangeFuncLeaves
import Derived.RangeFuncBox
import Derived.Laws.MakeOwn
namespace Go.Proofs.Ytkkhecdmjcffjaa
open Go.RowKit

set_option maxRecDepth 100000 in
set_option maxHeartbeats 4000000 in
theorem refasked_calls (c : Cf) (a : Option Addr) (m d : Nat) (l : List Rw) (who amount : Int) (hm : m = l.length) (w : World) (hB : Books w (.slice a m d) l) :
    Calls Try.prog 22 #[cfV c, .slice a m d, .int .i64 who, .int .i64 amount] w (fun e w' => e = .returned (.int .i64 (askedV c l who amount)) ∧ Below w.heap.size w w') := by
  have HW := Lib.hid (Whole.made w 23 (cfCells c))
  have Hb0 := Lib.hid (below_box w (.cells (cfCells c) 23))
  have HB := Lib.hid hB; clear hB
  have Hm := Lib.hid hm; clear hm
  obtain ⟨n, q, r, p, kk, cc⟩ := c
  obtain ⟨res, Hres⟩ : ∃ z, Hid (askedV ⟨n, q, r, p, kk, cc⟩ l who amount = z) := ⟨_, rfl⟩
  rw [Hres.out]
  obtain ⟨ok, Hok⟩ : ∃ z, Hid (rightB ⟨n, q, r, p, kk, cc⟩ l = z) := ⟨_, rfl⟩
  go_enter Try.func22, Try.ntmps22
  go_wp2_with fail
  refine (refright_calls ⟨n, q, r, p, kk, cc⟩ a m d l Hm.out _ (HB.out.later Hb0.out)).mono ?_
  rintro e w1 ⟨rfl, hb⟩
  rw [Hok.out]
  have Hb1 := Lib.hid (held_next Hb0.out hb)
  have HW1 := Lib.hid (HW.out.later hb HW.out.lt)
  clear hb
  obtain ⟨d0, d1, d2, d3, d4, d5⟩ := config_cells HW1.out
  simp only at d0 d1 d2 d3 d4 d5
  cases ok with
  | false =>
    obtain rfl : res = 1 := Hres.out.symm.trans (askedV_no fun h => by
      have := decide_eq_true h.1
      rw [show decide (rightOk ⟨n, q, r, p, kk, cc⟩ l) = false from Hok.out] at this
      cases this)
    go_wp2_with fail
    go_ret
    exact ⟨rfl, Hb1.out⟩
  | true =>
    by_cases h0 : who < 0
    · obtain rfl : res = 1 := Hres.out.symm.trans (askedV_no fun h => by have := h.2.1; omega)
      go_wp2_with fail
      go_ret
      exact ⟨rfl, Hb1.out⟩
    by_cases h1 : n ≤ who
    · obtain rfl : res = 1 := Hres.out.symm.trans (askedV_no fun h => by have := h.2.2; simp only at this; omega)
      go_wp2_with fail
      go_ret
      exact ⟨rfl, Hb1.out⟩
    have HV : Hid (res = if 1 ≤ amount ∧ amount ≤ 1099511627776 then 0 else 2) := Hres.out.symm.trans (if_pos ⟨rightB_ok Hok.out, by omega, by simp only; omega⟩)
    by_cases h2 : amount < 1
    · obtain rfl : res = 2 := HV.out.trans (if_neg fun h => by omega)
      go_wp2_with fail
      go_ret
      exact ⟨rfl, Hb1.out⟩
    by_cases h3 : amount > 1099511627776
    · obtain rfl : res = 2 := HV.out.trans (if_neg fun h => by omega)
      go_wp2_with fail
      go_ret
      exact ⟨rfl, Hb1.out⟩
    obtain rfl : res = 0 := HV.out.trans (if_pos ⟨by omega, by omega⟩)
    go_wp2_with fail
    go_ret
    exact ⟨rfl, Hb1.out⟩
end Go.Proofs.Ytkkhecdmjcffjaa
