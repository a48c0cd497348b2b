/- Package tape, walked: Turn, Wipe. No law is proved here. -/
import Derived.Test.YtokdppjpgeaiiaaTapeOwn
import Derived.WalkKit
import Derived.ProofKit
import Derived.OpenShut
import Derived.WalkSpells
import Derived.Laws.AppendOwn
import Derived.Laws.AppendOwnNone
import Derived.Laws.OwnMore
import Derived.Lib.Hide
import Derived.Deep.Draws
import Derived.RegionTactic
import Derived.LoopTactic
import Derived.BigRegion
import Derived.Deep.LoopGhost
import Derived.Lib.MinMax
import Derived.IntWalk
import Derived.Deep.RegionHeld3
namespace Go.Proofs.Ytokdppjpgeaiiaa
open Go.RowKit

set_option maxRecDepth 100000 in
set_option maxHeartbeats 4000000 in
theorem tTurn_calls (x : TpS) (t : Tp) (w : World) (h : TB w x t) (hf : t.fits 400000) : Calls Try.prog 17 #[tpV x] w (Taped w (TOff · x t) (turnT t)) := by
  obtain ⟨⟨⟨a1, na1, ca1⟩, ⟨a2, na2, ca2⟩⟩, ⟨⟨a3, na3, ca3⟩, ⟨a4, na4, ca4⟩⟩⟩ := x
  have H := Lib.hid h; clear h
  have HF := Lib.hid hf; clear hf
  have HF1 : Hid (t.fits 1000000) := by obtain ⟨⟨_, _⟩, _, _⟩ := HF.out; exact ⟨⟨by omega, by omega⟩, by omega, by omega⟩
  obtain ⟨W1, hW1⟩ : ∃ z, (w.alloc (.cells #[.slice a1 na1 ca1, .slice a2 na2 ca2, .slice a3 na3 ca3, .slice a4 na4 ca4] 26)).alloc (.cells #[.slice none 0 0, .slice none 0 0, .slice none 0 0, .slice none 0 0] 26) = z := ⟨_, rfl⟩
  have HW : Hid (Whole W1 w.heap.size 26 #[.slice a1 na1 ca1, .slice a2 na2 ca2, .slice a3 na3 ca3, .slice a4 na4 ca4]) := by rw [← hW1]; exact (Whole.made w _ _).alloc _
  have HZ : Hid (Whole W1 (w.heap.size + 1) 26 #[.slice none 0 0, .slice none 0 0, .slice none 0 0, .slice none 0 0]) := by rw [← hW1]; exact Whole.made2 w _ _ _
  have Hb0 : Hid (Below w.heap.size w W1) := by rw [← hW1]; exact below_two w _ _
  have hs1 : w.heap.size + 1 < W1.heap.size := HZ.out.lt
  have q0 := HW.out.cell 0
  have q1 := HW.out.cell 1
  have q2 := HW.out.cell 2
  have q3 := HW.out.cell 3
  show Calls Try.prog 17 #[.agg #[.slice a1 na1 ca1, .slice a2 na2 ca2, .slice a3 na3 ca3, .slice a4 na4 ca4]] w _
  go_enter Try.func17, Try.ntmps17
  go_wp2_with fail
  clear hW1
  refine (own_calls ⟨⟨⟨a3, na3, ca3⟩, ⟨a4, na4, ca4⟩⟩, ⟨⟨none, 0, 0⟩, ⟨none, 0, 0⟩⟩⟩ (turnT t) _ ⟨H.out.2.later Hb0.out, SB.nil _, SB.nil _⟩ ⟨HF1.out.2, Nat.zero_le _, Nat.zero_le _⟩).mono ?_
  rintro e w2 ⟨⟨⟨⟨b1, nb1, cb1⟩, ⟨b2, nb2, cb2⟩⟩, ⟨⟨b3, nb3, cb3⟩, ⟨b4, nb4, cb4⟩⟩⟩, rfl, hT, hO, hb⟩
  have HT := Lib.hid hT
  have HO : Hid (∀ g, g < W1.heap.size → TOff g ⟨⟨⟨b1, nb1, cb1⟩, ⟨b2, nb2, cb2⟩⟩, ⟨⟨b3, nb3, cb3⟩, ⟨b4, nb4, cb4⟩⟩⟩ (turnT t)) := fun g hg => hO g hg trivial
  have HZ2 := Lib.hid (HZ.out.later hb hs1)
  have Hb2 := Lib.hid (held_next Hb0.out hb)
  have z0 := HZ2.out.cell 0
  have z1 := HZ2.out.cell 1
  have z2 := HZ2.out.cell 2
  have z3 := HZ2.out.cell 3
  have y0 := HZ2.out.free 0
  have y1 := HZ2.out.free 1
  have y2 := HZ2.out.free 2
  have y3 := HZ2.out.free 3
  have hlt : w.heap.size + 1 < w2.heap.size := HZ2.out.lt
  clear hb hT hO q0 q1 q2 q3
  go_wp2_with fail
  have hL := tape_left4 HZ2.out (.slice b1 nb1 cb1) (.slice b2 nb2 cb2) (.slice b3 nb3 cb3) (.slice b4 nb4 cb4)
  have k0 := hL.cell 0
  have k1 := hL.cell 1
  have k2 := hL.cell 2
  have k3 := hL.cell 3
  refine bodyPost_ret (v := .agg #[.slice b1 nb1 cb1, .slice b2 nb2 cb2, .slice b3 nb3 cb3, .slice b4 nb4 cb4]) (by simp [results, Try.results17, go_sem, k0, k1, k2, k3]) rfl ?_
  exact ⟨⟨⟨⟨b1, nb1, cb1⟩, ⟨b2, nb2, cb2⟩⟩, ⟨⟨b3, nb3, cb3⟩, ⟨b4, nb4, cb4⟩⟩⟩, rfl, HT.out.four (HO.out _ hs1) _ _ _ _, fun g hg _ => HO.out g (by omega), below_four Hb2.out (Nat.le_succ _) _ _ _ _⟩

set_option maxRecDepth 100000 in
set_option maxHeartbeats 4000000 in
theorem tWipe_calls (x : TpS) (t : Tp) (w : World) (h : TB w x t) (hf : t.fits 400000) : Calls Try.prog 19 #[tpV x] w (Taped w (TOff · x t) (wipeT t)) := by
  obtain ⟨⟨⟨a1, na1, ca1⟩, ⟨a2, na2, ca2⟩⟩, ⟨⟨a3, na3, ca3⟩, ⟨a4, na4, ca4⟩⟩⟩ := x
  have H := Lib.hid h; clear h
  have HF := Lib.hid hf; clear hf
  have HF1 : Hid (t.fits 1000000) := by obtain ⟨⟨_, _⟩, _, _⟩ := HF.out; exact ⟨⟨by omega, by omega⟩, by omega, by omega⟩
  obtain ⟨W1, hW1⟩ : ∃ z, (w.alloc (.cells #[.slice a1 na1 ca1, .slice a2 na2 ca2, .slice a3 na3 ca3, .slice a4 na4 ca4] 26)).alloc (.cells #[.slice none 0 0, .slice none 0 0, .slice none 0 0, .slice none 0 0] 26) = z := ⟨_, rfl⟩
  have HW : Hid (Whole W1 w.heap.size 26 #[.slice a1 na1 ca1, .slice a2 na2 ca2, .slice a3 na3 ca3, .slice a4 na4 ca4]) := by rw [← hW1]; exact (Whole.made w _ _).alloc _
  have HZ : Hid (Whole W1 (w.heap.size + 1) 26 #[.slice none 0 0, .slice none 0 0, .slice none 0 0, .slice none 0 0]) := by rw [← hW1]; exact Whole.made2 w _ _ _
  have Hb0 : Hid (Below w.heap.size w W1) := by rw [← hW1]; exact below_two w _ _
  have hs1 : w.heap.size + 1 < W1.heap.size := HZ.out.lt
  have q0 := HW.out.cell 0
  have q1 := HW.out.cell 1
  have q2 := HW.out.cell 2
  have q3 := HW.out.cell 3
  show Calls Try.prog 19 #[.agg #[.slice a1 na1 ca1, .slice a2 na2 ca2, .slice a3 na3 ca3, .slice a4 na4 ca4]] w _
  go_enter Try.func19, Try.ntmps19
  go_wp2_with fail
  clear hW1
  refine (own_calls ⟨⟨⟨a1, na1, ca1⟩, ⟨a2, na2, ca2⟩⟩, ⟨⟨none, 0, 0⟩, ⟨none, 0, 0⟩⟩⟩ (wipeT t) _ ⟨H.out.1.later Hb0.out, SB.nil _, SB.nil _⟩ ⟨HF1.out.1, Nat.zero_le _, Nat.zero_le _⟩).mono ?_
  rintro e w2 ⟨⟨⟨⟨b1, nb1, cb1⟩, ⟨b2, nb2, cb2⟩⟩, ⟨⟨b3, nb3, cb3⟩, ⟨b4, nb4, cb4⟩⟩⟩, rfl, hT, hO, hb⟩
  have HT := Lib.hid hT
  have HO : Hid (∀ g, g < W1.heap.size → TOff g ⟨⟨⟨b1, nb1, cb1⟩, ⟨b2, nb2, cb2⟩⟩, ⟨⟨b3, nb3, cb3⟩, ⟨b4, nb4, cb4⟩⟩⟩ (wipeT t)) := fun g hg => hO g hg trivial
  have HZ2 := Lib.hid (HZ.out.later hb hs1)
  have Hb2 := Lib.hid (held_next Hb0.out hb)
  have z0 := HZ2.out.cell 0
  have z1 := HZ2.out.cell 1
  have z2 := HZ2.out.cell 2
  have z3 := HZ2.out.cell 3
  have y0 := HZ2.out.free 0
  have y1 := HZ2.out.free 1
  have y2 := HZ2.out.free 2
  have y3 := HZ2.out.free 3
  have hlt : w.heap.size + 1 < w2.heap.size := HZ2.out.lt
  clear hb hT hO q0 q1 q2 q3
  go_wp2_with fail
  have hL := tape_left4 HZ2.out (.slice b1 nb1 cb1) (.slice b2 nb2 cb2) (.slice b3 nb3 cb3) (.slice b4 nb4 cb4)
  have k0 := hL.cell 0
  have k1 := hL.cell 1
  have k2 := hL.cell 2
  have k3 := hL.cell 3
  refine bodyPost_ret (v := .agg #[.slice b1 nb1 cb1, .slice b2 nb2 cb2, .slice b3 nb3 cb3, .slice b4 nb4 cb4]) (by simp [results, Try.results19, go_sem, k0, k1, k2, k3]) rfl ?_
  exact ⟨⟨⟨⟨b1, nb1, cb1⟩, ⟨b2, nb2, cb2⟩⟩, ⟨⟨b3, nb3, cb3⟩, ⟨b4, nb4, cb4⟩⟩⟩, rfl, HT.out.four (HO.out _ hs1) _ _ _ _, fun g hg _ => HO.out g (by omega), below_four Hb2.out (Nat.le_succ _) _ _ _ _⟩
end Go.Proofs.Ytokdppjpgeaiiaa
