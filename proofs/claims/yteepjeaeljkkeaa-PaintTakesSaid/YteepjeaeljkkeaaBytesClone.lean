/- slices.Clone of bytes. No law is proved here. -/
import Derived.Test.YteepjeaeljkkeaaOwnBytes
import Derived.WalkKit
import Derived.ProofKit
import Derived.OpenShut
import Derived.WalkSpells
import Derived.Laws.AppendOwn
import Derived.Laws.AppendOwnNone
import Derived.Laws.OwnMore
import Derived.Lib.Hide
import Derived.Deep.Draws
import Derived.Deep.Slices
import Derived.Deep.Fields
import Derived.ChangeSame
import Derived.RegionTactic
import Derived.Maps.AppendAt
import Derived.Lib.SmallJoins
import Derived.RangeFuncNested
import Derived.RangeFuncBound
import Derived.RangeFuncLeaves
import Derived.RangeFuncBox
import Derived.Laws.MakeOwn
import Derived.LoopTactic
import Derived.BigRegion
import Derived.Laws.Cover3
namespace Go.Proofs.Yteepjeaeljkkeaa
open Go.RowKit

attribute [local go_sem ↓] run_fine
/-- these bytes, of the call's own -/
def ClonedB (w : World) (zs : List Int) (e : Ending) (w' : World) : Prop := ∃ v, e = .returned v ∧ OwnB w.heap.size w' v zs ∧ Below w.heap.size w w'
set_option maxRecDepth 100000 in
set_option maxHeartbeats 4000000 in
theorem cloneb_calls (a : Option Addr) (n c : Nat) (zs : List Int) (w : World) (hB : Bytes w (.slice a n c) zs) (hn : n = zs.length) (hnc : n ≤ c) (hroom : zs.length ≤ 140737488355000) :
    Calls Try.prog 21 #[.slice a n c] w (ClonedB w zs) := by
  cases a with
  | none =>
    have hz : zs = [] ∧ n = 0 ∧ c = 0 := by
      obtain ⟨_, _, ⟨a0, c0, h3, h4, h5⟩ | ⟨b, off, c0, h3, h4⟩⟩ := hB
      · simp only [Value.slice.injEq] at h3
        obtain ⟨rfl, h, rfl⟩ := h3
        exact ⟨h5, h, h4 rfl⟩
      · simp at h3
    obtain ⟨rfl, rfl, rfl⟩ := hz
    clear hB hn hnc hroom
    go_enter Try.func21, Try.ntmps21
    have heq : ∀ w : World, (binOp .eql 24 (.slice none 0 0) (.slice none 0 0)).run Try.prog w = .ok (.bool true) w := by
      intro w
      simp only [binOp]
      simp [run_equal_slice_nil w 24 5 none 0 0 Try.underlying24]
    go_wp2
    go_ret
    exact ⟨_, rfl, ownB_nil _ _, Below.refl _ _⟩
  | some ad =>
    have hb1 : Below w.heap.size w (w.alloc (.cells #[] 5)) := below_box w _
    obtain ⟨v1, w1, hrun1, q1, q2, _⟩ := run_append_own (w := w.alloc (.cells #[] 5)) (fresh_empty w).ownB hb1.size (hB.later hb1) hn hnc (by simp; omega)
    obtain ⟨hf1, hv1, hw1⟩ := fine_of hrun1
    rw [List.nil_append] at q1
    have Q1 := Lib.hid q1
    have Hb := Lib.hid (hb1.trans q2)
    clear hrun1 q1 q2 hb1 hB hn hnc hroom
    go_enter Try.func21, Try.ntmps21
    have heq : ∀ w : World, (binOp .eql 24 (.slice (some ad) n c) (.slice none 0 0)).run Try.prog w = .ok (.bool false) w := by
      intro w
      simp only [binOp]
      simp [run_equal_slice_nil w 24 5 (some ad) n c Try.underlying24]
    go_wp2
    go_ret
    exact ⟨v1, rfl, Q1.out, Hb.out⟩
end Go.Proofs.Yteepjeaeljkkeaa
