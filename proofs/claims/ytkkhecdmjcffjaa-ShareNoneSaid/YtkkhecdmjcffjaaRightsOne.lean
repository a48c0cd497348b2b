/- Package rights, walked: the rights of one. No law is proved here. -/
import Derived.Test.YtkkhecdmjcffjaaRightsRight
import Derived.WalkKit
import Derived.ProofKit
import Derived.OpenShut
import Derived.WalkSpells
import Derived.Laws.AppendOwn
import Derived.Laws.AppendOwnNone
import Derived.Laws.OwnMore
import Derived.Lib.Hide
import Derived.Deep.Draws
import Derived.Deep.Slices
import Derived.Deep.Fields
import Derived.ChangeSame
import Derived.RegionTactic
import Derived.Maps.AppendAt
import Derived.Lib.SmallJoins
import Derived.RangeFuncNested
import Derived.RangeFuncBound
import Derived.RangeFuncLeaves
import Derived.RangeFuncBox
import Derived.Laws.MakeOwn
import Derived.LoopTactic
import Derived.BigRegion
import Derived.WalkLawsBesides
import Derived.IntWalk
import Derived.WalkSmall
import Derived.Deep.QuietTactic
import Derived.BigQuiet
import Derived.Deep.RegionHeld3
import Derived.RangeFuncCalls
import Derived.Shelf.Abstract
import Derived.Shelf.RegionOpen
import Derived.OwnWalkIn
import Derived.TacticsInMore
import Derived.LoopNIn
import Derived.LoopIn
import Derived.Laws.EntriesVeiled
namespace Go.Proofs.Ytkkhecdmjcffjaa
open Go.RowKit

set_option maxRecDepth 100000 in
set_option maxHeartbeats 4000000 in
theorem rOf_calls (c : Cf) (a : Option Addr) (m d : Nat) (l : List Rw) (who : Int) (hm : m = l.length) (w : World) (hB : Books w (.slice a m d) l) : Calls Try.prog 26 #[cfV c, .slice a m d, .int .i64 who] w (Num w (ofV c l who)) := by
  have HW := Lib.hid (Whole.made w 23 (cfCells c))
  have Hb0 := Lib.hid (below_box w (.cells (cfCells c) 23))
  have HB := Lib.hid hB; clear hB
  have Hm := Lib.hid hm; clear hm
  obtain ⟨n, q, r, p, kk, cc⟩ := c
  obtain ⟨v, Hv⟩ : ∃ z, Hid (ofV ⟨n, q, r, p, kk, cc⟩ l who = z) := ⟨_, rfl⟩
  rw [Hv.out]
  obtain ⟨ok, Hok⟩ : ∃ z, Hid (rightB ⟨n, q, r, p, kk, cc⟩ l = z) := ⟨_, rfl⟩
  go_enter Try.func26, Try.ntmps26
  go_wp2_with fail
  refine (rRight_calls ⟨n, q, r, p, kk, cc⟩ a m d l Hm.out _ (HB.out.later Hb0.out)).mono ?_
  rintro e w1 ⟨rfl, hb⟩
  rw [Hok.out]
  have Hb1 := Lib.hid (held_next Hb0.out hb)
  have HW1 := Lib.hid (HW.out.later hb HW.out.lt)
  clear hb
  obtain ⟨d0, d1, d2, d3, d4, d5⟩ := config_cells HW1.out
  simp only at d0 d1 d2 d3 d4 d5
  cases ok with
  | false =>
    obtain rfl : v = 0 := Hv.out.symm.trans (if_neg fun h => by
      have := decide_eq_true h.1
      rw [show decide (rightOk ⟨n, q, r, p, kk, cc⟩ l) = false from Hok.out] at this
      cases this)
    go_wp2_with fail
    go_ret
    exact ⟨by rfl, Hb1.out⟩
  | true =>
  go_wp2_with fail
  refine (among_calls ⟨n, q, r, p, kk, cc⟩ who _).mono ?_
  rintro e w2 ⟨rfl, hb⟩
  have Hb2 := Lib.hid (held_next Hb1.out hb)
  have HW2 := Lib.hid (HW1.out.later hb HW1.out.lt)
  clear hb d0 d1 d2 d3 d4 d5
  obtain ⟨d0, d1, d2, d3, d4, d5⟩ := config_cells HW2.out
  simp only at d0 d1 d2 d3 d4 d5
  by_cases ha : 0 ≤ who ∧ who < n
  rotate_left 1
  · rw [amongB_no ha]
    obtain rfl : v = 0 := Hv.out.symm.trans (if_neg fun h => ha h.2)
    go_wp2_with fail
    go_ret
    exact ⟨by rfl, Hb2.out⟩
  rw [amongB_yes ha]
  obtain ⟨h0, h1⟩ := ha
  have hR := rightB_ok Hok.out
  have hlen := hR.2.1
  have h16 := hR.len
  have HF := Lib.hid hR.fits
  simp only at hlen
  obtain ⟨i, rfl⟩ : ∃ i : Nat, who = (i : Int) := ⟨who.toNat, by omega⟩
  have him : i < m := by have := Hm.out; omega
  have h16' : m ≤ 16 := by have := Hm.out; omega
  have Hv' : Hid (v = rightsV ⟨n, q, r, p, kk, cc⟩ l i) := by
    rw [← Hv.out]
    unfold ofV
    rw [if_pos ⟨hR, h0, h1⟩]; exact rfl
  clear hR hlen h16
  go_wp2_with fail
  refine (rights_calls ⟨n, q, r, p, kk, cc⟩ a m d _).mono ?_
  rintro e w3 ⟨cv, rfl, ⟨bl, ba, bc, bs, rfl, q1, q2, q3, q4⟩, hb⟩
  have Hb3 := Lib.hid (held_next Hb2.out hb)
  have Q1 := Lib.hid q1; clear q1
  have Q2 := Lib.hid q2; clear q2
  have Q3 := Lib.hid q3; clear q3
  have Q4 := Lib.hid q4; clear q4
  clear hb d0 d1 d2 d3 d4 d5
  go_wp2_with fail
  refine (clos_calls ⟨n, q, r, p, kk, cc⟩ a m d l i Hm.out h16' him HF.out bl ba bc bs _ (HB.out.later Hb3.out) Q1.out Q2.out Q3.out Q4.out).mono ?_
  rintro e w4 ⟨rfl, hb⟩
  rw [← Hv'.out]
  have Hb4 := Lib.hid (held_next Hb3.out hb)
  clear hb
  go_wp2_with fail
  go_ret
  exact ⟨by rfl, Hb4.out⟩
end Go.Proofs.Ytkkhecdmjcffjaa
