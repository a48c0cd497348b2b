/- The document's own, walked: the rights of one, of right books. No law is proved here. -/
import Derived.Test.YtkkhecdmjcffjaaRefRightsRight
import Derived.WalkKit
import Derived.ProofKit
import Derived.OpenShut
import Derived.WalkSpells
import Derived.Laws.AppendOwn
import Derived.Laws.AppendOwnNone
import Derived.Laws.OwnMore
import Derived.Lib.Hide
import Derived.Deep.Draws
import Derived.Deep.Slices
import Derived.Deep.Fields
import Derived.ChangeSame
import Derived.RegionTactic
import Derived.Maps.AppendAt
import Derived.Lib.SmallJoins
import Derived.WalkLawsBesides
import Derived.LoopTactic
import Derived.IntWalk
import Derived.WalkSmall
import Derived.Deep.QuietTactic
import Derived.BigQuiet
import Derived.Deep.RegionHeld3
import Derived.RangeFuncNested
import Derived.RangeFuncBound
import Derived.RangeFuncLeaves
import Derived.RangeFuncBox
import Derived.Laws.MakeOwn
namespace Go.Proofs.Ytkkhecdmjcffjaa
open Go.RowKit

set_option maxRecDepth 100000 in
set_option maxHeartbeats 4000000 in
theorem refOf_calls (c : Cf) (a : Option Addr) (m d : Nat) (l : List Rw) (who : Int) (hm : m = l.length) (w : World) (hB : Books w (.slice a m d) l) :
    Calls Try.prog 13 #[cfV c, .slice a m d, .int .i64 who] w (fun e w' => e = .returned (.int .i64 (ofV c l who)) ∧ Below w.heap.size w w') := by
  have HW := Lib.hid (Whole.made w 23 (cfCells c))
  have Hb0 := Lib.hid (below_box w (.cells (cfCells c) 23))
  have HB := Lib.hid hB; clear hB
  have Hm := Lib.hid hm; clear hm
  obtain ⟨v, Hv⟩ : ∃ z, Hid (ofV c l who = z) := ⟨_, rfl⟩
  rw [Hv.out]
  obtain ⟨ok, Hok⟩ : ∃ z, Hid (rightB c l = z) := ⟨_, rfl⟩
  go_enter Try.func13, Try.ntmps13
  go_wp2_with fail
  refine (refright_calls c a m d l Hm.out _ (HB.out.later Hb0.out)).mono ?_
  rintro e w1 ⟨rfl, hb⟩
  rw [Hok.out]
  have Hb1 := Lib.hid (held_next Hb0.out hb)
  have HW1 := Lib.hid (HW.out.later hb HW.out.lt)
  clear hb
  obtain ⟨d0, d1, d2, d3, d4, d5⟩ := config_cells HW1.out
  cases ok with
  | false =>
    obtain rfl : v = 0 := Hv.out.symm.trans (if_neg fun h => by
      have := decide_eq_true h.1
      rw [show decide (rightOk c l) = false from Hok.out] at this
      cases this)
    go_wp2_with fail
    go_ret
    exact ⟨rfl, Hb1.out⟩
  | true =>
    by_cases h0 : 0 ≤ who
    · by_cases h1 : who < c.n
      · have hR := rightB_ok Hok.out
        have hlen := hR.2.1
        have h16 := hR.len
        have HF := Lib.hid hR.fits
        obtain ⟨i, rfl⟩ : ∃ i : Nat, who = (i : Int) := ⟨who.toNat, by omega⟩
        have him : i < m := by have := Hm.out; omega
        have h16' : m ≤ 16 := by have := Hm.out; omega
        have Hv' : Hid (v = rightsV c l i) := by
          rw [← Hv.out]
          unfold ofV
          rw [if_pos ⟨hR, h0, h1⟩]; exact rfl
        clear hR hlen h16
        go_wp2_with fail
        refine (refof_calls c a m d l i Hm.out h16' him HF.out _ (HB.out.later Hb1.out)).mono ?_
        rintro e w2 ⟨rfl, hb⟩
        rw [← Hv'.out]
        have Hb2 := Lib.hid (held_next Hb1.out hb)
        clear hb
        go_wp2_with fail
        go_ret
        exact ⟨by rfl, Hb2.out⟩
      · obtain rfl : v = 0 := Hv.out.symm.trans (if_neg fun h => h1 h.2.2)
        go_wp2_with fail
        go_ret
        exact ⟨by rfl, Hb1.out⟩
    · obtain rfl : v = 0 := Hv.out.symm.trans (if_neg fun h => h0 h.2.1)
      go_wp2_with fail
      go_ret
      exact ⟨by rfl, Hb1.out⟩
end Go.Proofs.Ytkkhecdmjcffjaa
