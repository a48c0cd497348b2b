/- Package tape, walked: Sync. No law is proved here. -/
import Derived.Test.YtokdppjpgeaiiaaTapeOwn
import Derived.WalkKit
import Derived.ProofKit
import Derived.OpenShut
import Derived.WalkSpells
import Derived.Laws.AppendOwn
import Derived.Laws.AppendOwnNone
import Derived.Laws.OwnMore
import Derived.Lib.Hide
import Derived.Deep.Draws
import Derived.RegionTactic
import Derived.LoopTactic
import Derived.BigRegion
import Derived.Deep.LoopGhost
import Derived.Lib.MinMax
import Derived.IntWalk
import Derived.Deep.RegionHeld3
namespace Go.Proofs.Ytokdppjpgeaiiaa
open Go.RowKit

set_option maxRecDepth 100000 in
set_option maxHeartbeats 4000000 in
theorem tSync_calls (x : TpS) (t : Tp) (sp : Bool) (w : World) (h : TB w x t) (hf : t.fits 400000) : Calls Try.prog 15 #[tpV x, .bool sp] w (Taped w (TOff · x t) (syncT t sp)) := by
  obtain ⟨⟨⟨a1, na1, ca1⟩, ⟨a2, na2, ca2⟩⟩, ⟨⟨a3, na3, ca3⟩, ⟨a4, na4, ca4⟩⟩⟩ := x
  have H := Lib.hid h; clear h
  have HF := Lib.hid hf; clear hf
  have HF1 : Hid (t.fits 1000000) := by obtain ⟨⟨_, _⟩, _, _⟩ := HF.out; exact ⟨⟨by omega, by omega⟩, by omega, by omega⟩
  obtain ⟨W1, hW1⟩ : ∃ z, (w.alloc (.cells #[.slice a1 na1 ca1, .slice a2 na2 ca2, .slice a3 na3 ca3, .slice a4 na4 ca4] 26)).alloc (.cells #[.slice none 0 0, .slice none 0 0, .slice none 0 0, .slice none 0 0] 26) = z := ⟨_, rfl⟩
  have HW : Hid (Whole W1 w.heap.size 26 #[.slice a1 na1 ca1, .slice a2 na2 ca2, .slice a3 na3 ca3, .slice a4 na4 ca4]) := by rw [← hW1]; exact (Whole.made w _ _).alloc _
  have HZ : Hid (Whole W1 (w.heap.size + 1) 26 #[.slice none 0 0, .slice none 0 0, .slice none 0 0, .slice none 0 0]) := by rw [← hW1]; exact Whole.made2 w _ _ _
  have Hb0 : Hid (Below w.heap.size w W1) := by rw [← hW1]; exact below_two w _ _
  have hs1 : w.heap.size + 1 < W1.heap.size := HZ.out.lt
  have q0 := HW.out.cell 0
  have q1 := HW.out.cell 1
  have q2 := HW.out.cell 2
  have q3 := HW.out.cell 3
  show Calls Try.prog 15 #[.agg #[.slice a1 na1 ca1, .slice a2 na2 ca2, .slice a3 na3 ca3, .slice a4 na4 ca4], .bool sp] w _
  go_enter Try.func15, Try.ntmps15
  cases sp with
  | true =>
    go_wp2_with fail
    clear hW1 q0 q1 q2 q3
    refine (own_calls ⟨⟨⟨a1, na1, ca1⟩, ⟨a2, na2, ca2⟩⟩, ⟨⟨a3, na3, ca3⟩, ⟨a4, na4, ca4⟩⟩⟩ t _ (H.out.later Hb0.out) HF1.out).mono ?_
    rintro e w2 ⟨⟨⟨⟨b1, nb1, cb1⟩, ⟨b2, nb2, cb2⟩⟩, ⟨⟨b3, nb3, cb3⟩, ⟨b4, nb4, cb4⟩⟩⟩, rfl, hT, hO, hb⟩
    have HO : Hid (∀ g, g < W1.heap.size → TOff g ⟨⟨⟨b1, nb1, cb1⟩, ⟨b2, nb2, cb2⟩⟩, ⟨⟨b3, nb3, cb3⟩, ⟨b4, nb4, cb4⟩⟩⟩ t) := fun g hg => hO g hg trivial
    have HW2 := Lib.hid (HW.out.later hb HW.out.lt)
    have HZ2 := Lib.hid (HZ.out.later hb hs1)
    have Hb2 := Lib.hid (held_next Hb0.out hb)
    have q0 := HW2.out.cell 0
    have q1 := HW2.out.cell 1
    have q2 := HW2.out.cell 2
    have q3 := HW2.out.cell 3
    have f0 := HW2.out.free 0
    have f1 := HW2.out.free 1
    have f2 := HW2.out.free 2
    have f3 := HW2.out.free 3
    have hs2 : w.heap.size < w2.heap.size := HW2.out.lt
    obtain ⟨w3, hw3⟩ : ∃ z, ((((w2.setCell ⟨w.heap.size, 0, none⟩ (.slice b1 nb1 cb1)).setCell ⟨w.heap.size, 1, none⟩ (.slice b2 nb2 cb2)).setCell ⟨w.heap.size, 2, none⟩ (.slice b3 nb3 cb3)).setCell ⟨w.heap.size, 3, none⟩ (.slice b4 nb4 cb4)) = z := ⟨_, rfl⟩
    have HW3 : Hid (Whole w3 w.heap.size 26 #[.slice b1 nb1 cb1, .slice b2 nb2 cb2, .slice b3 nb3 cb3, .slice b4 nb4 cb4]) := by rw [← hw3]; exact tape_left4 HW2.out _ _ _ _
    have HZ3 : Hid (Whole w3 (w.heap.size + 1) 26 #[.slice none 0 0, .slice none 0 0, .slice none 0 0, .slice none 0 0]) := by rw [← hw3]; exact ((((HZ2.out.other (p := ⟨w.heap.size, 0, none⟩) (Nat.succ_ne_self _) _).other (p := ⟨w.heap.size, 1, none⟩) (Nat.succ_ne_self _) _).other (p := ⟨w.heap.size, 2, none⟩) (Nat.succ_ne_self _) _).other (p := ⟨w.heap.size, 3, none⟩) (Nat.succ_ne_self _) _)
    have HT3 : Hid (TB w3 ⟨⟨⟨b1, nb1, cb1⟩, ⟨b2, nb2, cb2⟩⟩, ⟨⟨b3, nb3, cb3⟩, ⟨b4, nb4, cb4⟩⟩⟩ t) := by rw [← hw3]; exact hT.four (HO.out _ (by omega)) _ _ _ _
    have Hb3 : Hid (Below w.heap.size w w3) := by rw [← hw3]; exact below_four Hb2.out (Nat.le_refl _) _ _ _ _
    have Hs3 : Hid (W1.heap.size ≤ w3.heap.size) := by rw [← hw3]; have := hb.size; exact Lib.hid (by simpa using this)
    have hlt3 : w.heap.size + 1 < w3.heap.size := HZ3.out.lt
    clear hb hT hO
    go_wp2_with fail
    clear q0 q1 q2 q3 f0 f1 f2 f3 hw3
    refine (area_calls w.heap.size true _).mono ?_
    rintro e wA ⟨rfl, rfl⟩
    have q0 := HW3.out.cell 0
    have q1 := HW3.out.cell 1
    have q2 := HW3.out.cell 2
    have q3 := HW3.out.cell 3
    go_wp2_with fail
    clear q0 q1 q2 q3
    refine (tbytes_calls ⟨⟨b3, nb3, cb3⟩, ⟨b4, nb4, cb4⟩⟩ t.s _ HT3.out.2 HF1.out.2).mono ?_
    rintro e w4 ⟨v4, rfl, hO4, hb⟩
    obtain ⟨⟨d0, nd0, cd0⟩, rfl, hS4, ho4⟩ := hO4.sl (by unfold Ar.all; rw [List.length_append]; obtain ⟨⟨_, _⟩, _, _⟩ := HF1.out; omega)
    have HW4 := Lib.hid (HW3.out.later hb HW3.out.lt)
    have HZ4 := Lib.hid (HZ3.out.later hb HZ3.out.lt)
    have HT4 := Lib.hid (HT3.out.later hb)
    have Hb4 := Lib.hid (held_next Hb3.out hb)
    have HS4 := Lib.hid hS4
    have HO4 : Hid (∀ g, g < W1.heap.size → Off g ⟨d0, nd0, cd0⟩ t.s.all) := fun g hg => ho4 g (Nat.lt_of_lt_of_le hg Hs3.out)
    have Hs4 : Hid (W1.heap.size ≤ w4.heap.size) := Nat.le_trans Hs3.out hb.size
    clear hO4 hb hS4 ho4
    go_wp2_with fail
    have hcall := laid_calls ⟨d0, nd0, cd0⟩ t.s.all nd0 w4 HS4.out (Nat.le_refl _)
    rw [show nd0 = t.s.all.length from HS4.out.1, List.take_length, List.drop_length, ← show nd0 = t.s.all.length from HS4.out.1] at hcall
    refine hcall.mono ?_
    clear hcall
    rintro e w5 ⟨⟨⟨d1, nd1, cd1⟩, ⟨d2, nd2, cd2⟩⟩, rfl, hA, ho, hb⟩
    have HW5 := Lib.hid (HW4.out.later hb HW4.out.lt)
    have HZ5 := Lib.hid (HZ4.out.later hb HZ4.out.lt)
    have HT5 := Lib.hid (HT4.out.later hb)
    have Hb5 := Lib.hid (held_next Hb4.out hb)
    have HA5 := Lib.hid hA
    have HO5 : Hid (∀ g, g < W1.heap.size → AOff g ⟨⟨d1, nd1, cd1⟩, ⟨d2, nd2, cd2⟩⟩ ⟨t.s.all, []⟩) := fun g hg => ho g (Nat.lt_of_lt_of_le hg Hs4.out) (HO4.out g hg)
    have q0 := HW5.out.cell 0
    have q1 := HW5.out.cell 1
    have q2 := HW5.out.cell 2
    have q3 := HW5.out.cell 3
    have f0 := HW5.out.free 0
    have f1 := HW5.out.free 1
    have f2 := HW5.out.free 2
    have f3 := HW5.out.free 3
    have z0 := HZ5.out.cell 0
    have z1 := HZ5.out.cell 1
    have z2 := HZ5.out.cell 2
    have z3 := HZ5.out.cell 3
    have y0 := HZ5.out.free 0
    have y1 := HZ5.out.free 1
    have y2 := HZ5.out.free 2
    have y3 := HZ5.out.free 3
    have hlt : w.heap.size + 1 < w5.heap.size := HZ5.out.lt
    clear hA ho hb
    go_wp2_with fail
    have hL := tape_left (i := 2) (j := 3) HZ5.out (Nat.succ_ne_self w.heap.size) (.slice d1 nd1 cd1) (.slice d2 nd2 cd2) (.slice b1 nb1 cb1) (.slice b2 nb2 cb2) (.slice d1 nd1 cd1) (.slice d2 nd2 cd2)
    have k0 := hL.cell 0
    have k1 := hL.cell 1
    have k2 := hL.cell 2
    have k3 := hL.cell 3
    refine bodyPost_ret (v := .agg #[.slice b1 nb1 cb1, .slice b2 nb2 cb2, .slice d1 nd1 cd1, .slice d2 nd2 cd2]) (by simp [results, Try.results15, go_sem, k0, k1, k2, k3]) rfl ?_
    exact ⟨⟨⟨⟨b1, nb1, cb1⟩, ⟨b2, nb2, cb2⟩⟩, ⟨⟨d1, nd1, cd1⟩, ⟨d2, nd2, cd2⟩⟩⟩, rfl, ⟨⟨HT5.out.1.1.six (HO.out _ (by omega)).1.1 (HO.out _ hs1).1.1 _ _ _ _ _ _, HT5.out.1.2.six (HO.out _ (by omega)).1.2 (HO.out _ hs1).1.2 _ _ _ _ _ _⟩, ⟨HA5.out.1.six (HO5.out _ (by omega)).1 (HO5.out _ hs1).1 _ _ _ _ _ _, HA5.out.2.six (HO5.out _ (by omega)).2 (HO5.out _ hs1).2 _ _ _ _ _ _⟩⟩, fun g hg _ => ⟨(HO.out g (by omega)).1, HO5.out g (by omega)⟩, below_six Hb5.out (Nat.le_refl _) (Nat.le_succ _) _ _ _ _ _ _⟩
  | false =>
    go_wp2_with fail
    clear hW1 q0 q1 q2 q3
    refine (own_calls ⟨⟨⟨a1, na1, ca1⟩, ⟨a2, na2, ca2⟩⟩, ⟨⟨a3, na3, ca3⟩, ⟨a4, na4, ca4⟩⟩⟩ t _ (H.out.later Hb0.out) HF1.out).mono ?_
    rintro e w2 ⟨⟨⟨⟨b1, nb1, cb1⟩, ⟨b2, nb2, cb2⟩⟩, ⟨⟨b3, nb3, cb3⟩, ⟨b4, nb4, cb4⟩⟩⟩, rfl, hT, hO, hb⟩
    have HO : Hid (∀ g, g < W1.heap.size → TOff g ⟨⟨⟨b1, nb1, cb1⟩, ⟨b2, nb2, cb2⟩⟩, ⟨⟨b3, nb3, cb3⟩, ⟨b4, nb4, cb4⟩⟩⟩ t) := fun g hg => hO g hg trivial
    have HW2 := Lib.hid (HW.out.later hb HW.out.lt)
    have HZ2 := Lib.hid (HZ.out.later hb hs1)
    have Hb2 := Lib.hid (held_next Hb0.out hb)
    have q0 := HW2.out.cell 0
    have q1 := HW2.out.cell 1
    have q2 := HW2.out.cell 2
    have q3 := HW2.out.cell 3
    have f0 := HW2.out.free 0
    have f1 := HW2.out.free 1
    have f2 := HW2.out.free 2
    have f3 := HW2.out.free 3
    have hs2 : w.heap.size < w2.heap.size := HW2.out.lt
    obtain ⟨w3, hw3⟩ : ∃ z, ((((w2.setCell ⟨w.heap.size, 0, none⟩ (.slice b1 nb1 cb1)).setCell ⟨w.heap.size, 1, none⟩ (.slice b2 nb2 cb2)).setCell ⟨w.heap.size, 2, none⟩ (.slice b3 nb3 cb3)).setCell ⟨w.heap.size, 3, none⟩ (.slice b4 nb4 cb4)) = z := ⟨_, rfl⟩
    have HW3 : Hid (Whole w3 w.heap.size 26 #[.slice b1 nb1 cb1, .slice b2 nb2 cb2, .slice b3 nb3 cb3, .slice b4 nb4 cb4]) := by rw [← hw3]; exact tape_left4 HW2.out _ _ _ _
    have HZ3 : Hid (Whole w3 (w.heap.size + 1) 26 #[.slice none 0 0, .slice none 0 0, .slice none 0 0, .slice none 0 0]) := by rw [← hw3]; exact ((((HZ2.out.other (p := ⟨w.heap.size, 0, none⟩) (Nat.succ_ne_self _) _).other (p := ⟨w.heap.size, 1, none⟩) (Nat.succ_ne_self _) _).other (p := ⟨w.heap.size, 2, none⟩) (Nat.succ_ne_self _) _).other (p := ⟨w.heap.size, 3, none⟩) (Nat.succ_ne_self _) _)
    have HT3 : Hid (TB w3 ⟨⟨⟨b1, nb1, cb1⟩, ⟨b2, nb2, cb2⟩⟩, ⟨⟨b3, nb3, cb3⟩, ⟨b4, nb4, cb4⟩⟩⟩ t) := by rw [← hw3]; exact hT.four (HO.out _ (by omega)) _ _ _ _
    have Hb3 : Hid (Below w.heap.size w w3) := by rw [← hw3]; exact below_four Hb2.out (Nat.le_refl _) _ _ _ _
    have Hs3 : Hid (W1.heap.size ≤ w3.heap.size) := by rw [← hw3]; have := hb.size; exact Lib.hid (by simpa using this)
    have hlt3 : w.heap.size + 1 < w3.heap.size := HZ3.out.lt
    clear hb hT hO
    go_wp2_with fail
    clear q0 q1 q2 q3 f0 f1 f2 f3 hw3
    refine (area_calls w.heap.size false _).mono ?_
    rintro e wA ⟨rfl, rfl⟩
    have q0 := HW3.out.cell 0
    have q1 := HW3.out.cell 1
    have q2 := HW3.out.cell 2
    have q3 := HW3.out.cell 3
    go_wp2_with fail
    clear q0 q1 q2 q3
    refine (tbytes_calls ⟨⟨b1, nb1, cb1⟩, ⟨b2, nb2, cb2⟩⟩ t.m _ HT3.out.1 HF1.out.1).mono ?_
    rintro e w4 ⟨v4, rfl, hO4, hb⟩
    obtain ⟨⟨d0, nd0, cd0⟩, rfl, hS4, ho4⟩ := hO4.sl (by unfold Ar.all; rw [List.length_append]; obtain ⟨⟨_, _⟩, _, _⟩ := HF1.out; omega)
    have HW4 := Lib.hid (HW3.out.later hb HW3.out.lt)
    have HZ4 := Lib.hid (HZ3.out.later hb HZ3.out.lt)
    have HT4 := Lib.hid (HT3.out.later hb)
    have Hb4 := Lib.hid (held_next Hb3.out hb)
    have HS4 := Lib.hid hS4
    have HO4 : Hid (∀ g, g < W1.heap.size → Off g ⟨d0, nd0, cd0⟩ t.m.all) := fun g hg => ho4 g (Nat.lt_of_lt_of_le hg Hs3.out)
    have Hs4 : Hid (W1.heap.size ≤ w4.heap.size) := Nat.le_trans Hs3.out hb.size
    clear hO4 hb hS4 ho4
    go_wp2_with fail
    have hcall := laid_calls ⟨d0, nd0, cd0⟩ t.m.all nd0 w4 HS4.out (Nat.le_refl _)
    rw [show nd0 = t.m.all.length from HS4.out.1, List.take_length, List.drop_length, ← show nd0 = t.m.all.length from HS4.out.1] at hcall
    refine hcall.mono ?_
    clear hcall
    rintro e w5 ⟨⟨⟨d1, nd1, cd1⟩, ⟨d2, nd2, cd2⟩⟩, rfl, hA, ho, hb⟩
    have HW5 := Lib.hid (HW4.out.later hb HW4.out.lt)
    have HZ5 := Lib.hid (HZ4.out.later hb HZ4.out.lt)
    have HT5 := Lib.hid (HT4.out.later hb)
    have Hb5 := Lib.hid (held_next Hb4.out hb)
    have HA5 := Lib.hid hA
    have HO5 : Hid (∀ g, g < W1.heap.size → AOff g ⟨⟨d1, nd1, cd1⟩, ⟨d2, nd2, cd2⟩⟩ ⟨t.m.all, []⟩) := fun g hg => ho g (Nat.lt_of_lt_of_le hg Hs4.out) (HO4.out g hg)
    have q0 := HW5.out.cell 0
    have q1 := HW5.out.cell 1
    have q2 := HW5.out.cell 2
    have q3 := HW5.out.cell 3
    have f0 := HW5.out.free 0
    have f1 := HW5.out.free 1
    have f2 := HW5.out.free 2
    have f3 := HW5.out.free 3
    have z0 := HZ5.out.cell 0
    have z1 := HZ5.out.cell 1
    have z2 := HZ5.out.cell 2
    have z3 := HZ5.out.cell 3
    have y0 := HZ5.out.free 0
    have y1 := HZ5.out.free 1
    have y2 := HZ5.out.free 2
    have y3 := HZ5.out.free 3
    have hlt : w.heap.size + 1 < w5.heap.size := HZ5.out.lt
    clear hA ho hb
    go_wp2_with fail
    have hL := tape_left (i := 0) (j := 1) HZ5.out (Nat.succ_ne_self w.heap.size) (.slice d1 nd1 cd1) (.slice d2 nd2 cd2) (.slice d1 nd1 cd1) (.slice d2 nd2 cd2) (.slice b3 nb3 cb3) (.slice b4 nb4 cb4)
    have k0 := hL.cell 0
    have k1 := hL.cell 1
    have k2 := hL.cell 2
    have k3 := hL.cell 3
    refine bodyPost_ret (v := .agg #[.slice d1 nd1 cd1, .slice d2 nd2 cd2, .slice b3 nb3 cb3, .slice b4 nb4 cb4]) (by simp [results, Try.results15, go_sem, k0, k1, k2, k3]) rfl ?_
    exact ⟨⟨⟨⟨d1, nd1, cd1⟩, ⟨d2, nd2, cd2⟩⟩, ⟨⟨b3, nb3, cb3⟩, ⟨b4, nb4, cb4⟩⟩⟩, rfl, ⟨⟨HA5.out.1.six (HO5.out _ (by omega)).1 (HO5.out _ hs1).1 _ _ _ _ _ _, HA5.out.2.six (HO5.out _ (by omega)).2 (HO5.out _ hs1).2 _ _ _ _ _ _⟩, ⟨HT5.out.2.1.six (HO.out _ (by omega)).2.1 (HO.out _ hs1).2.1 _ _ _ _ _ _, HT5.out.2.2.six (HO.out _ (by omega)).2.2 (HO.out _ hs1).2.2 _ _ _ _ _ _⟩⟩, fun g hg _ => ⟨HO5.out g (by omega), (HO.out g (by omega)).2⟩, below_six Hb5.out (Nat.le_refl _) (Nat.le_succ _) _ _ _ _ _ _⟩
end Go.Proofs.Ytokdppjpgeaiiaa
