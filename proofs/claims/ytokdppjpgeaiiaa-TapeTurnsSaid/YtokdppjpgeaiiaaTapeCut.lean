/- Package tape, walked: Cut. No law is proved here. -/
import Derived.Test.YtokdppjpgeaiiaaTapeOwn
import Derived.WalkKit
import Derived.ProofKit
import Derived.OpenShut
import Derived.WalkSpells
import Derived.Laws.AppendOwn
import Derived.Laws.AppendOwnNone
import Derived.Laws.OwnMore
import Derived.Lib.Hide
import Derived.Deep.Draws
import Derived.RegionTactic
import Derived.LoopTactic
import Derived.BigRegion
import Derived.Deep.LoopGhost
import Derived.Lib.MinMax
import Derived.IntWalk
import Derived.Deep.RegionLaw
import Derived.Test.YtokdppjpgeaiiaaRefTapeCut
import Derived.Deep.RegionHeld3
namespace Go.Proofs.Ytokdppjpgeaiiaa
open Go.RowKit

theorem cut_parts (l : List Int) {m k : Nat} (h : m ≤ k) : (l.take k).take m = l.take m := by rw [List.take_take, Nat.min_eq_left h]
set_option maxRecDepth 100000 in
set_option maxHeartbeats 8000000 in
theorem tCut_calls (x : TpS) (t : Tp) (n : Int) (w : World) (h : TB w x t) (hf : t.fits 400000) : Calls Try.prog 21 #[tpV x, .int .i64 n] w (Taped w (TOff · x t) (cutT t n)) := by
  obtain ⟨k, Hk⟩ : ∃ z, Hid (heldV n t.m.all.length = z) := ⟨_, rfl⟩
  obtain ⟨m, Hm⟩ : ∃ z, Hid (heldV (k : Int) t.m.s.length = z) := ⟨_, rfl⟩
  have Hk1 : Hid (k ≤ t.m.all.length) := by rw [← Hk.out]; exact heldV_le _ _
  have Hmk : Hid (m ≤ k) := by rw [← Hm.out]; show heldV (k : Int) t.m.s.length ≤ k; unfold heldV; split <;> (try split) <;> omega
  have Hmin : Hid (min (k : Int) ((t.m.s.length : Nat) : Int) = (m : Int)) := by rw [← Hm.out, ← min_held]; show _ = max 0 (min (k : Int) _); omega
  have Hc : Hid (cutT t n = ⟨⟨(t.m.all.take k).take m, (t.m.all.take k).drop m⟩, t.s⟩) := by rw [cut_parts _ Hmk.out]; show cutT t n = _; unfold cutT; rw [Hk.out, Hm.out]
  rw [Hc.out]
  obtain ⟨⟨⟨a1, na1, ca1⟩, ⟨a2, na2, ca2⟩⟩, ⟨⟨a3, na3, ca3⟩, ⟨a4, na4, ca4⟩⟩⟩ := x
  have H := Lib.hid h; clear h
  have HF := Lib.hid hf; clear hf
  have HF1 : Hid (t.fits 1000000) := by obtain ⟨⟨_, _⟩, _, _⟩ := HF.out; exact ⟨⟨by omega, by omega⟩, by omega, by omega⟩
  obtain ⟨W1, hW1⟩ : ∃ z, (w.alloc (.cells #[.slice a1 na1 ca1, .slice a2 na2 ca2, .slice a3 na3 ca3, .slice a4 na4 ca4] 26)).alloc (.cells #[.slice none 0 0, .slice none 0 0, .slice none 0 0, .slice none 0 0] 26) = z := ⟨_, rfl⟩
  have HW : Hid (Whole W1 w.heap.size 26 #[.slice a1 na1 ca1, .slice a2 na2 ca2, .slice a3 na3 ca3, .slice a4 na4 ca4]) := by rw [← hW1]; exact (Whole.made w _ _).alloc _
  have HZ : Hid (Whole W1 (w.heap.size + 1) 26 #[.slice none 0 0, .slice none 0 0, .slice none 0 0, .slice none 0 0]) := by rw [← hW1]; exact Whole.made2 w _ _ _
  have Hb0 : Hid (Below w.heap.size w W1) := by rw [← hW1]; exact below_two w _ _
  have hs1 : w.heap.size + 1 < W1.heap.size := HZ.out.lt
  have q0 := HW.out.cell 0
  have q1 := HW.out.cell 1
  have q2 := HW.out.cell 2
  have q3 := HW.out.cell 3
  show Calls Try.prog 21 #[.agg #[.slice a1 na1 ca1, .slice a2 na2 ca2, .slice a3 na3 ca3, .slice a4 na4 ca4], .int .i64 n] w _
  go_enter Try.func21, Try.ntmps21
  go_wp2_with fail
  clear hW1 q0 q1 q2 q3
  refine (own_calls ⟨⟨⟨a1, na1, ca1⟩, ⟨a2, na2, ca2⟩⟩, ⟨⟨a3, na3, ca3⟩, ⟨a4, na4, ca4⟩⟩⟩ t _ (H.out.later Hb0.out) HF1.out).mono ?_
  rintro e w2 ⟨⟨⟨⟨b1, nb1, cb1⟩, ⟨b2, nb2, cb2⟩⟩, ⟨⟨b3, nb3, cb3⟩, ⟨b4, nb4, cb4⟩⟩⟩, rfl, hT, hO, hb⟩
  have HO : Hid (∀ g, g < W1.heap.size → TOff g ⟨⟨⟨b1, nb1, cb1⟩, ⟨b2, nb2, cb2⟩⟩, ⟨⟨b3, nb3, cb3⟩, ⟨b4, nb4, cb4⟩⟩⟩ t) := fun g hg => hO g hg trivial
  have HW2 := Lib.hid (HW.out.later hb HW.out.lt)
  have HZ2 := Lib.hid (HZ.out.later hb hs1)
  have Hb2 := Lib.hid (held_next Hb0.out hb)
  have q0 := HW2.out.cell 0
  have q1 := HW2.out.cell 1
  have q2 := HW2.out.cell 2
  have q3 := HW2.out.cell 3
  have f0 := HW2.out.free 0
  have f1 := HW2.out.free 1
  have f2 := HW2.out.free 2
  have f3 := HW2.out.free 3
  have hs2 : w.heap.size < w2.heap.size := HW2.out.lt
  obtain ⟨w3, hw3⟩ : ∃ z, ((((w2.setCell ⟨w.heap.size, 0, none⟩ (.slice b1 nb1 cb1)).setCell ⟨w.heap.size, 1, none⟩ (.slice b2 nb2 cb2)).setCell ⟨w.heap.size, 2, none⟩ (.slice b3 nb3 cb3)).setCell ⟨w.heap.size, 3, none⟩ (.slice b4 nb4 cb4)) = z := ⟨_, rfl⟩
  have HW3 : Hid (Whole w3 w.heap.size 26 #[.slice b1 nb1 cb1, .slice b2 nb2 cb2, .slice b3 nb3 cb3, .slice b4 nb4 cb4]) := by rw [← hw3]; exact tape_left4 HW2.out _ _ _ _
  have HZ3 : Hid (Whole w3 (w.heap.size + 1) 26 #[.slice none 0 0, .slice none 0 0, .slice none 0 0, .slice none 0 0]) := by rw [← hw3]; exact ((((HZ2.out.other (p := ⟨w.heap.size, 0, none⟩) (Nat.succ_ne_self _) _).other (p := ⟨w.heap.size, 1, none⟩) (Nat.succ_ne_self _) _).other (p := ⟨w.heap.size, 2, none⟩) (Nat.succ_ne_self _) _).other (p := ⟨w.heap.size, 3, none⟩) (Nat.succ_ne_self _) _)
  have HT3 : Hid (TB w3 ⟨⟨⟨b1, nb1, cb1⟩, ⟨b2, nb2, cb2⟩⟩, ⟨⟨b3, nb3, cb3⟩, ⟨b4, nb4, cb4⟩⟩⟩ t) := by rw [← hw3]; exact hT.four (HO.out _ (by omega)) _ _ _ _
  have Hb3 : Hid (Below w.heap.size w w3) := by rw [← hw3]; exact below_four Hb2.out (Nat.le_refl _) _ _ _ _
  have Hs3 : Hid (W1.heap.size ≤ w3.heap.size) := by rw [← hw3]; have := hb.size; exact Lib.hid (by simpa using this)
  have hlt3 : w.heap.size + 1 < w3.heap.size := HZ3.out.lt
  clear hb hT hO
  have p0 := HW3.out.cell 0
  have p1 := HW3.out.cell 1
  have p2 := HW3.out.cell 2
  have p3 := HW3.out.cell 3
  go_wp2_with fail
  clear q0 q1 q2 q3 f0 f1 f2 f3 p0 p1 p2 p3 hw3
  refine (tbytes_calls ⟨⟨b1, nb1, cb1⟩, ⟨b2, nb2, cb2⟩⟩ t.m _ HT3.out.1 HF1.out.1).mono ?_
  rintro e w4 ⟨v4, rfl, hO4, hb⟩
  obtain ⟨⟨d0, nd0, cd0⟩, rfl, hS4, ho4⟩ := hO4.sl (by unfold Ar.all; rw [List.length_append]; obtain ⟨⟨_, _⟩, _, _⟩ := HF1.out; omega)
  have HW4 := Lib.hid (HW3.out.later hb HW3.out.lt)
  have HZ4 := Lib.hid (HZ3.out.later hb HZ3.out.lt)
  have HT4 := Lib.hid (HT3.out.later hb)
  have Hb4 := Lib.hid (held_next Hb3.out hb)
  have Hs4 : Hid (W1.heap.size ≤ w4.heap.size) := Nat.le_trans Hs3.out hb.size
  have hn4 : nd0 = t.m.all.length := hS4.1
  have Hheld : Hid (heldV n nd0 = k) := by rw [hn4]; exact Hk.out
  have Hk4 : Hid (k ≤ nd0) := by rw [hn4]; exact Hk1.out
  have hmin : min (k : Int) (nb1 : Int) = (m : Int) := by rw [show nb1 = t.m.s.length from HT3.out.1.1.1]; exact Hmin.out
  obtain ⟨⟨d6, nd6, cd6⟩, hsl6, hS6, hO6⟩ := SB.upto hS4 Hk4.out
  have HS6 := Lib.hid hS6
  have HO6 : Hid (∀ g, g < W1.heap.size → Off g ⟨d6, nd6, cd6⟩ (t.m.all.take k)) := fun g hg => hO6 g (ho4 g (Nat.lt_of_lt_of_le hg Hs3.out))
  have hsl : ∀ w, (Instr.slice 22 (.slice d0 nd0 cd0) none (some (.int .i64 (k : Int))) none).run Try.prog w = .ok (.slice d6 nd6 cd6) w := hsl6
  have Hm6 : Hid (m ≤ nd6) := by have h1 : nd6 = (t.m.all.take k).length := hS6.1; rw [h1, List.length_take, Nat.min_eq_left Hk1.out]; exact Hmk.out
  clear hO4 hb hS4 ho4 hn4 hsl6 hS6 hO6
  go_wp2_with fail
  refine (kept_calls n nd0 _).mono ?_
  rw [Hheld.out]
  rintro e wB ⟨rfl, rfl⟩
  have q0 := HW4.out.cell 0
  have q1 := HW4.out.cell 1
  have q2 := HW4.out.cell 2
  have q3 := HW4.out.cell 3
  go_wp2_with fail
  go_region_law (first
      | (go_simp; go_at_call 28; have hcall := laid_calls ⟨d6, nd6, cd6⟩ (t.m.all.take k) m w4.drew (HS6.out.later (Below.refl _ _).drew) Hm6.out; (with_reducible refine hcall.mono ?_); clear hcall; rintro e w5 ⟨⟨⟨d1, nd1, cd1⟩, ⟨d2, nd2, cd2⟩⟩, rfl, hA, ho, hb⟩; have Hb45 : Hid (Below w4.heap.size w4 w5) := (Below.refl _ _).drew.trans hb; have HA5 := Lib.hid hA; have HO5 : Hid (∀ g, g < W1.heap.size → AOff g ⟨⟨d1, nd1, cd1⟩, ⟨d2, nd2, cd2⟩⟩ ⟨(t.m.all.take k).take m, (t.m.all.take k).drop m⟩) := fun g hg => ho g (Nat.lt_of_lt_of_le hg Hs4.out) (HO6.out g hg); have HW5 := Lib.hid (HW4.out.later Hb45.out HW4.out.lt); have HZ5 := Lib.hid (HZ4.out.later Hb45.out HZ4.out.lt); have HT5 := Lib.hid (HT4.out.later Hb45.out); have Hb5 := Lib.hid (held_next Hb4.out Hb45.out); have q50 := HW5.out.cell 0; have f50 := HW5.out.free 0; have q51 := HW5.out.cell 1; have f51 := HW5.out.free 1; have q52 := HW5.out.cell 2; have f52 := HW5.out.free 2; have q53 := HW5.out.cell 3; have f53 := HW5.out.free 3; have z0 := HZ5.out.cell 0; have y0 := HZ5.out.free 0; have z1 := HZ5.out.cell 1; have y1 := HZ5.out.free 1; have z2 := HZ5.out.cell 2; have y2 := HZ5.out.free 2; have z3 := HZ5.out.cell 3; have y3 := HZ5.out.free 3; have hlt := HZ5.out.lt; have hlt5 := HW5.out.lt; clear hA ho hb))
  all_goals go_wp2_with fail
  all_goals have hL := tape_left (i := 0) (j := 1) HZ5.out (Nat.succ_ne_self w.heap.size) (.slice d1 nd1 cd1) (.slice d2 nd2 cd2) (.slice d1 nd1 cd1) (.slice d2 nd2 cd2) (.slice b3 nb3 cb3) (.slice b4 nb4 cb4)
  all_goals have k0 := hL.cell 0
  all_goals have k1 := hL.cell 1
  all_goals have k2 := hL.cell 2
  all_goals have k3 := hL.cell 3
  all_goals refine bodyPost_ret (v := .agg #[.slice d1 nd1 cd1, .slice d2 nd2 cd2, .slice b3 nb3 cb3, .slice b4 nb4 cb4]) (by simp [results, Try.results21, go_sem, k0, k1, k2, k3]) rfl ?_
  all_goals exact ⟨⟨⟨⟨d1, nd1, cd1⟩, ⟨d2, nd2, cd2⟩⟩, ⟨⟨b3, nb3, cb3⟩, ⟨b4, nb4, cb4⟩⟩⟩, rfl, ⟨⟨HA5.out.1.six (HO5.out _ (by omega)).1 (HO5.out _ hs1).1 _ _ _ _ _ _, HA5.out.2.six (HO5.out _ (by omega)).2 (HO5.out _ hs1).2 _ _ _ _ _ _⟩, HT5.out.2.1.six (HO.out _ (by omega)).2.1 (HO.out _ hs1).2.1 _ _ _ _ _ _, HT5.out.2.2.six (HO.out _ (by omega)).2.2 (HO.out _ hs1).2.2 _ _ _ _ _ _⟩, fun g hg _ => ⟨HO5.out g (by omega), (HO.out g (by omega)).2⟩, below_six Hb5.out (Nat.le_refl _) (Nat.le_succ _) _ _ _ _ _ _⟩
end Go.Proofs.Ytokdppjpgeaiiaa
