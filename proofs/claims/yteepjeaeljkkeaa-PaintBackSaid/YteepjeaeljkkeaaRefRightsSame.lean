/- The document's own, walked: are books the same. No law is proved here. -/
import Derived.Test.YteepjeaeljkkeaaRightsWords
import Derived.Test.YteepjeaeljkkeaaRef04Same
import Derived.WalkKit
import Derived.ProofKit
import Derived.OpenShut
import Derived.WalkSpells
import Derived.Laws.AppendOwn
import Derived.Laws.AppendOwnNone
import Derived.Laws.OwnMore
import Derived.Lib.Hide
import Derived.Deep.Draws
import Derived.Deep.Slices
import Derived.Deep.Fields
import Derived.ChangeSame
import Derived.RegionTactic
import Derived.Maps.AppendAt
import Derived.Lib.SmallJoins
import Derived.RangeFuncNested
import Derived.RangeFuncBound
import Derived.RangeFuncLeaves
import Derived.RangeFuncBox
import Derived.Laws.MakeOwn
import Derived.Deep.QuietTactic
import Derived.BigQuiet
import Derived.LoopTactic
import Derived.WalkSmall
import Derived.Deep.RegionHeld3
namespace Go.Proofs.Yteepjeaeljkkeaa
open Go.RowKit

set_option maxRecDepth 100000 in
set_option maxHeartbeats 4000000 in
theorem refsamebooks_calls (a : Option Addr) (m d : Nat) (b : Option Addr) (n e : Nat) (la lb : List Rw) (hm : m = la.length) (hn : n = lb.length) (w : World) (hA : Books w (.slice a m d) la) (hB : Books w (.slice b n e) lb) :
    Calls Try.prog 9 #[.slice a m d, .slice b n e] w (Says w (sameL la lb)) := by
  have hbm : m ≤ 9223372036854775807 := by rw [hm]; exact hA.big
  have hbn : n ≤ 9223372036854775807 := by rw [hn]; exact hB.big
  have HA := Lib.hid hA; clear hA
  have HB := Lib.hid hB; clear hB
  have Hm := Lib.hid hm; clear hm
  have Hn := Lib.hid hn; clear hn
  obtain ⟨res, Hres⟩ : ∃ z, Hid (sameL la lb = z) := ⟨_, rfl⟩
  rw [Hres.out]
  by_cases hne : m ≠ n
  · obtain rfl : res = false := Hres.out.symm.trans (sameL_no fun h => hne (by rw [Hm.out, Hn.out, h.1]))
    have hne' : ((m : Int) != (n : Int)) = true := by simp; omega
    go_enter Try.func9, Try.ntmps9
    go_wp2
    go_ret
    exact ⟨rfl, Below.refl _ _⟩
  have hne' : m = n := by omega
  clear hne
  subst hne'
  go_enter Try.func9, Try.ntmps9
  go_wp2
  go_loopw [5] (fun x wr => ∃ k : Nat, k ≤ m ∧ x = .int .i64 k ∧ Hid (∀ q, q < k → sameB (at_ la q).inc (at_ la q).use (at_ la q).out (at_ lb q).inc (at_ lb q).use (at_ lb q).out = true) ∧ Hid (Below w.heap.size w wr)) (fun x _ => m - (intOf x).toNat)
  case atStart => exact ⟨0, Nat.zero_le _, rfl, fun q hq => absurd hq (Nat.not_lt_zero _), Below.refl _ _⟩
  case round =>
    obtain ⟨k, hk, rfl, Hl, Hb⟩ := hrel
    by_cases hlt : k < m
    · obtain ⟨g1, o1, A1, C1, rfl, _, c0, c1, c2, hN1⟩ := HA.out.at (k := k) (by have := Hm.out; omega)
      obtain ⟨g2, o2, A2, C2, rfl, _, d0, d1, d2, hN2⟩ := HB.out.at (k := k) (by have := Hn.out; omega)
      obtain ⟨v, Hv⟩ : ∃ z, Hid (sameB (at_ la k).inc (at_ la k).use (at_ la k).out (at_ lb k).inc (at_ lb k).use (at_ lb k).out = z) := ⟨_, rfl⟩
      have HN1 := Lib.hid hN1; clear hN1
      have HN2 := Lib.hid hN2; clear hN2
      obtain ⟨r1, R1⟩ : ∃ z, Hid (at_ la k = z) := ⟨_, rfl⟩
      obtain ⟨r2, R2⟩ : ∃ z, Hid (at_ lb k = z) := ⟨_, rfl⟩
      rw [R1.out] at c0 c1 c2 HN1 Hv
      rw [R2.out] at d0 d1 d2 HN2 Hv
      have KP : Hid (∀ w', Below wr.heap.size wr w' → (w'.cell? ⟨g1, o1 + k * 3, none⟩ = some (.int .i64 r1.inc) ∧ w'.cell? ⟨g1, o1 + k * 3 + 1, none⟩ = some (.int .i64 r1.use) ∧ w'.cell? ⟨g1, o1 + k * 3 + 2, none⟩ = some (.slice A1 r1.out.length C1)) ∧
          (w'.cell? ⟨g2, o2 + k * 3, none⟩ = some (.int .i64 r2.inc) ∧ w'.cell? ⟨g2, o2 + k * 3 + 1, none⟩ = some (.int .i64 r2.use) ∧ w'.cell? ⟨g2, o2 + k * 3 + 2, none⟩ = some (.slice A2 r2.out.length C2))) :=
        fun w' h => ⟨⟨cell_later (held_next Hb.out h) c0, cell_later (held_next Hb.out h) c1, cell_later (held_next Hb.out h) c2⟩, cell_later (held_next Hb.out h) d0, cell_later (held_next Hb.out h) d1, cell_later (held_next Hb.out h) d2⟩
      have OM : Hid (∀ w', Below wr.heap.size wr w' → Calls Try.prog 20 #[rowV r1.inc r1.use (.slice A1 r1.out.length C1), rowV r2.inc r2.use (.slice A2 r2.out.length C2)] w' (Says w' v)) := by
        rw [← Hv.out]
        exact fun w' h => refsame_calls A1 _ C1 A2 _ C2 r1.inc r1.use r2.inc r2.use r1.out r2.out rfl rfl w' (HN1.out.later (held_next Hb.out h)) (HN2.out.later (held_next Hb.out h))
      clear c0 c1 c2 d0 d1 d2
      have k0 : (0 : Int) ≤ (k : Int) := by omega
      have k1 : (k : Int) < (m : Int) := by omega
      go_wp2
      go_region_held3 (fun w' => (w'.cell? ⟨g1, o1 + k * 3, none⟩ = some (.int .i64 r1.inc) ∧ w'.cell? ⟨g1, o1 + k * 3 + 1, none⟩ = some (.int .i64 r1.use) ∧ w'.cell? ⟨g1, o1 + k * 3 + 2, none⟩ = some (.slice A1 r1.out.length C1)) ∧
          (w'.cell? ⟨g2, o2 + k * 3, none⟩ = some (.int .i64 r2.inc) ∧ w'.cell? ⟨g2, o2 + k * 3 + 1, none⟩ = some (.int .i64 r2.use) ∧ w'.cell? ⟨g2, o2 + k * 3 + 2, none⟩ = some (.slice A2 r2.out.length C2)))
        (first | exact KP.out _ (Below.refl _ _).drew | exact KP.out _ hS1)
        (first | (go_at_call 20; refine (OM.out _ (Below.refl _ _).drew).mono ?_; rintro ee w2 ⟨rfl, hb1⟩; have hS1 := held_next ((Below.refl _ _).drew) hb1))
      cases v with
      | true =>
        go_wp2
        go_roundw
        case rel => exact ⟨k + 1, by omega, by go_num, (fun q hq => by
          by_cases e : q = k
          · subst e; rw [R1.out, R2.out]; exact Hv.out
          · exact Hl.out q (by omega)), held_next Hb.out hS1⟩
        case measure => simp [intOf]; omega
      | false =>
        obtain rfl : res = false := Hres.out.symm.trans (sameL_no fun h => by
          have := h.2 k (by have := Hm.out; omega)
          rw [R1.out, R2.out, Hv.out] at this
          cases this)
        go_wp2
        go_ret
        exact ⟨by rfl, held_next Hb.out hS1⟩
    · have hkm : k = m := by omega
      obtain rfl : res = true := Hres.out.symm.trans (decide_eq_true ⟨by rw [← Hm.out, ← Hn.out], fun q hq => Hl.out q (by have := Hm.out; omega)⟩)
      have Hkm := Lib.hid hkm; clear hkm
      go_wp2
      go_ret
      exact ⟨by rfl, Hb.out⟩
end Go.Proofs.Yteepjeaeljkkeaa
