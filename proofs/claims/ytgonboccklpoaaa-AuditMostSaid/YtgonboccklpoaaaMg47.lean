/- Merged texts: RefRightsValue, AuditAlone. No law is proved here. -/
import Derived.Test.YtgonboccklpoaaaRefRightsRight
import Derived.WalkKit
import Derived.ProofKit
import Derived.OpenShut
import Derived.WalkSpells
import Derived.Laws.AppendOwn
import Derived.Laws.AppendOwnNone
import Derived.Laws.OwnMore
import Derived.Lib.Hide
import Derived.Deep.Draws
import Derived.Deep.Slices
import Derived.Deep.Fields
import Derived.ChangeSame
import Derived.RegionTactic
import Derived.Maps.AppendAt
import Derived.Lib.SmallJoins
import Derived.WalkLawsBesides
import Derived.LoopTactic
import Derived.IntWalk
import Derived.WalkSmall
import Derived.Deep.QuietTactic
import Derived.BigQuiet
import Derived.Deep.RegionHeld3
import Derived.RangeFuncNested
import Derived.RangeFuncBound
import Derived.RangeFuncLeaves
import Derived.RangeFuncBox
import Derived.Laws.MakeOwn
import Derived.Test.YtgonboccklpoaaaMg39
import Derived.Test.YtgonboccklpoaaaMg40
/- The document's own, walked: the value. No law is proved here. -/
namespace Go.Proofs.Ytgonboccklpoaaa
open Go.RowKit

set_option maxRecDepth 100000 in
set_option maxHeartbeats 4000000 in
theorem refvalue_calls (c : Cf) (a : Option Addr) (m d : Nat) (l : List Rw) (hm : m = l.length) (w : World) (hB : Books w (.slice a m d) l) :
    Calls Try.prog 16 #[cfV c, .slice a m d] w (fun e w' => e = .returned (.int .i64 (valueV c l)) ∧ Below w.heap.size w w') := by
  have HW := Lib.hid (Whole.made w 23 (cfCells c))
  have Hb0 := Lib.hid (below_box w (.cells (cfCells c) 23))
  have HB := Lib.hid hB; clear hB
  obtain ⟨n, q, r, p, kk, cc⟩ := c
  have Hm := Lib.hid hm; clear hm
  obtain ⟨v, Hv⟩ : ∃ z, Hid (valueV ⟨n, q, r, p, kk, cc⟩ l = z) := ⟨_, rfl⟩
  rw [Hv.out]
  obtain ⟨ok, Hok⟩ : ∃ z, Hid (rightB ⟨n, q, r, p, kk, cc⟩ l = z) := ⟨_, rfl⟩
  go_enter Try.func16, Try.ntmps16
  go_wp2_with fail
  cases ok with
  | false =>
    obtain rfl : v = 0 := Hv.out.symm.trans (if_neg fun h => by
      have := decide_eq_true h
      rw [show decide (rightOk ⟨n, q, r, p, kk, cc⟩ l) = false from Hok.out] at this
      cases this)
    go_loopw [5, 6] (fun t i wr => t = .int .i64 0 ∧ i = .int .i64 0 ∧ Hid (Below w.heap.size w wr) ∧ Hid (Whole wr w.heap.size 23 (cfCells ⟨n, q, r, p, kk, cc⟩))) (fun _ _ _ => 0)
    case atStart => exact ⟨rfl, rfl, Hb0.out, HW.out⟩
    case round =>
      obtain ⟨rfl, rfl, Hb, HWr⟩ := hrel
      obtain ⟨d0, d1, d2, d3, d4, d5⟩ := config_cells HWr.out
      simp only at d0 d1 d2 d3 d4 d5
      go_wp2_with fail
      refine (refright_calls ⟨n, q, r, p, kk, cc⟩ a m d l Hm.out _ (HB.out.later Hb.out)).mono ?_
      rintro e w2 ⟨rfl, hb⟩
      rw [Hok.out]
      have Hb2 := Lib.hid (held_next Hb.out hb)
      clear hb d0 d1 d2 d3 d4 d5
      go_wp2_with fail
      go_ret
      exact ⟨by rfl, Hb2.out⟩
  | true =>
    have hR := rightB_ok Hok.out
    have hlen := hR.2.1
    have h16 := hR.len
    have HF := Lib.hid hR.fits
    have h16' : m ≤ 16 := by have := Hm.out; omega
    have hcm : n = (m : Int) := by have := Hm.out; simp only at hlen; omega
    have HvR : Hid (v = sumRights ⟨n, q, r, p, kk, cc⟩ l l.length) := by rw [← Hv.out]; unfold valueV; rw [if_pos hR]; exact rfl
    clear hR hlen h16
    subst hcm
    go_loopw [5, 6] (fun t i wr => ∃ (k : Nat) (T : Int), k ≤ m ∧ i = .int .i64 k ∧ t = .int .i64 T ∧ Hid (T = sumRights ⟨m, q, r, p, kk, cc⟩ l k) ∧ Hid (Below w.heap.size w wr) ∧ Hid (Whole wr w.heap.size 23 (cfCells ⟨m, q, r, p, kk, cc⟩))) (fun _ i _ => m - (intOf i).toNat)
    case atStart => exact ⟨0, 0, Nat.zero_le _, rfl, rfl, rfl, Hb0.out, HW.out⟩
    case round =>
      obtain ⟨k, T, hk, rfl, rfl, HT, Hb, HWr⟩ := hrel
      obtain ⟨d0, d1, d2, d3, d4, d5⟩ := config_cells HWr.out
      simp only at d0 d1 d2 d3 d4 d5
      go_wp2_with fail
      refine (refright_calls ⟨m, q, r, p, kk, cc⟩ a m d l Hm.out _ (HB.out.later Hb.out)).mono ?_
      rintro e w2 ⟨rfl, hb⟩
      rw [Hok.out]
      have Hb2 := Lib.hid (held_next Hb.out hb)
      have HW2 := Lib.hid (HWr.out.later hb HWr.out.lt)
      clear hb d0 d1 d2 d3 d4 d5
      obtain ⟨d0, d1, d2, d3, d4, d5⟩ := config_cells HW2.out
      simp only at d0 d1 d2 d3 d4 d5
      by_cases hlt : k < m
      · obtain ⟨x, Hx⟩ : ∃ z, Hid (rightsV ⟨m, q, r, p, kk, cc⟩ l k = z) := ⟨_, rfl⟩
        have hxb := rightsV_bound (c := ⟨m, q, r, p, kk, cc⟩) HF.out (by have := Hm.out; omega) (who := k) (by have := Hm.out; omega)
        rw [Hx.out] at hxb
        have hTb := sumRights_bound (c := ⟨m, q, r, p, kk, cc⟩) HF.out (by have := Hm.out; omega) k (by have := Hm.out; omega)
        rw [← HT.out] at hTb
        have hT0 : -(1125899906842624 * 17 * 16) ≤ T := by omega
        have hT1 : T ≤ 1125899906842624 * 17 * 16 := by omega
        obtain ⟨hx0, hx1⟩ := hxb
        clear hTb
        go_wp2_with fail
        refine (refof_calls ⟨m, q, r, p, kk, cc⟩ a m d l k Hm.out h16' hlt HF.out _ (HB.out.later Hb2.out)).mono ?_
        rintro e w3 ⟨rfl, hb⟩
        rw [Hx.out]
        have Hb3 := Lib.hid (held_next Hb2.out hb)
        have HW3 := Lib.hid (HW2.out.later hb HW2.out.lt)
        clear hb d0 d1 d2 d3 d4 d5
        go_wp2_with fail
        go_roundw
        case rel => exact ⟨k + 1, T + x, by omega, by go_num, rfl, show _ = _ by rw [HT.out, ← Hx.out]; rfl, Hb3.out, HW3.out⟩
        case measure => simp [intOf]; omega
      · have hkm : k = m := by omega
        have Hkm := Lib.hid hkm; clear hkm
        have HvT : Hid (v = T) := by rw [HvR.out, HT.out, Hkm.out, ← Hm.out]; exact rfl
        go_wp2_with fail
        go_ret
        exact ⟨by rw [HvT.out]; rfl, Hb2.out⟩
end Go.Proofs.Ytgonboccklpoaaa

/- Law AuditAlone, walked: alone an audit goes on, and ends, at once: what it tells is the value of the books. The law itself is stated in AuditCards. -/
namespace Go.Proofs.Ytgonboccklpoaaa
open Go.RowKit

set_option maxRecDepth 100000 in
set_option maxHeartbeats 8000000 in
theorem auditalone_law (c : Cf) (tr : Int) (a : Option Addr) (m cp : Nat) (l : List Rw) (hm : m = l.length) (w : World) (hB : Books w (.slice a m cp) l) (hR : Reach l) :
    Calls Try.prog 4 #[cfV c, .int .i64 tr, .slice a m cp] w (Says w true) := by
  have HW := Lib.hid (Whole.made w 23 (cfCells c))
  have Hb0 := Lib.hid (below_box w (.cells (cfCells c) 23))
  have HB := Lib.hid hB; clear hB
  have Hm := Lib.hid hm; clear hm
  obtain ⟨n, q, r, p, kk, cc⟩ := c
  go_enter Try.func4, Try.ntmps4
  go_wp2_with fail
  refine (awake15 _).mono ?_
  rintro e w1 ⟨rfl, hb⟩
  have Hb1 := Lib.hid (held_next Hb0.out hb)
  have HW1 := Lib.hid (HW.out.later hb HW.out.lt)
  clear hb
  go_wp2_with fail
  refine (refshort_calls a m cp l Hm.out hR _ (HB.out.later Hb1.out)).mono ?_
  clear hR
  rintro e w2 ⟨rfl, hb⟩
  have Hb2 := Lib.hid (held_next Hb1.out hb)
  have HW2 := Lib.hid (HW1.out.later hb HW1.out.lt)
  clear hb
  cases shortB l with
  | false =>
    go_wp2_with fail
    go_ret
    exact ⟨by rfl, Hb2.out⟩
  | true =>
  obtain ⟨d0, d1, d2, d3, d4, d5⟩ := config_cells HW2.out
  simp only at d0 d1 d2 d3 d4 d5
  by_cases hn : n = 1
  rotate_left 1
  · have hn' : (n != 1) = true := bne_iff_ne.2 hn
    clear hn
    go_wp2_with fail
    go_ret
    exact ⟨by rfl, Hb2.out⟩
  subst hn
  obtain ⟨ok, Hok⟩ : ∃ z, Hid (rightB ⟨1, q, r, p, kk, cc⟩ l = z) := ⟨_, rfl⟩
  go_wp2_with fail
  refine (refright_calls ⟨1, q, r, p, kk, cc⟩ a m cp l Hm.out _ (HB.out.later Hb2.out)).mono ?_
  rintro e w3 ⟨rfl, hb⟩
  rw [Hok.out]
  have Hb3 := Lib.hid (held_next Hb2.out hb)
  have HW3 := Lib.hid (HW2.out.later hb HW2.out.lt)
  clear hb d0 d1 d2 d3 d4 d5
  cases ok with
  | false =>
    go_wp2_with fail
    go_ret
    exact ⟨by rfl, Hb3.out⟩
  | true =>
  have hro := rightB_ok Hok.out
  have HRO := Lib.hid hro; clear hro
  obtain ⟨d0, d1, d2, d3, d4, d5⟩ := config_cells HW3.out
  simp only at d0 d1 d2 d3 d4 d5
  have hcall := fun w => aBegin_calls ⟨1, q, r, p, kk, cc⟩ 0 tr w
  by_cases ht : 1 ≤ tr ∧ tr ≤ 1125899906842624
  rotate_left 1
  · rw [begin_no (fun h => ht h.2.2)] at hcall
    have Hcall := Lib.hid hcall; clear hcall
    have ht' : tr < 1 ∨ 1125899906842624 < tr := by omega
    clear ht
    go_wp2_with fail
    refine (Hcall.out _).mono ?_
    rintro e w4 ⟨⟨a1, m1, c1, a2, m2, c2, a3, m3, c3⟩, rfl, _, hb⟩
    have Hb4 := Lib.hid (held_next Hb3.out (held_next hb (below_box w4 (.cells (auCells au0 (.slice a1 m1 c1) (.slice a2 m2 c2) (.slice a3 m3 c3)) 33))))
    clear hb
    rcases ht' with ht | ht
    · go_wp2_with fail
      go_ret
      exact ⟨by rfl, Hb4.out⟩
    · have ht2 : ¬ tr < 1 := by omega
      go_wp2_with fail
      go_ret
      exact ⟨by rfl, Hb4.out⟩
  obtain ⟨x, hx1, hx2, hx3, hx4⟩ := alone HRO.out rfl ht
  rw [hx1] at hcall
  have Hcall := Lib.hid hcall
  have X2 := Lib.hid hx2; have X3 := Lib.hid hx3; have X4 := Lib.hid hx4
  clear hcall hx1 hx2 hx3 hx4
  obtain ⟨v, Hv⟩ : ∃ z, Hid (valueV ⟨1, q, r, p, kk, cc⟩ l = z) := ⟨_, rfl⟩
  have x3 := X3.out
  rw [Hv.out] at x3
  have X3' := Lib.hid x3; clear x3
  go_wp2_with fail
  refine (Hcall.out _).mono ?_
  rintro e w4 ⟨⟨a1, m1, c1, a2, m2, c2, a3, m3, c3⟩, rfl, hA, hb⟩
  have hb4 := held_next hb (below_box w4 (.cells (auCells ⟨tr, 1, [false], [0], [0], false⟩ (.slice a1 m1 c1) (.slice a2 m2 c2) (.slice a3 m3 c3)) 33))
  have HX4 := Lib.hid (Whole.made w4 33 (auCells ⟨tr, 1, [false], [0], [0], false⟩ (.slice a1 m1 c1) (.slice a2 m2 c2) (.slice a3 m3 c3)))
  have HA4 := Lib.hid (hA.later (below_box w4 (.cells (auCells ⟨tr, 1, [false], [0], [0], false⟩ (.slice a1 m1 c1) (.slice a2 m2 c2) (.slice a3 m3 c3)) 33)))
  have Hb4 := Lib.hid (held_next Hb3.out hb4)
  have HW4 := Lib.hid (HW3.out.later hb4 HW3.out.lt)
  clear hb hb4 hA d0 d1 d2 d3 d4 d5
  obtain ⟨d0, d1, d2, d3, d4, d5⟩ := config_cells HW4.out
  obtain ⟨e0, e1, e2, e3, e4, e5⟩ := au_cells HX4.out
  simp only at d0 d1 d2 d3 d4 d5 e0 e1 e2 e3 e4 e5
  go_wp2_with fail
  refine (aNext_calls ⟨1, q, r, p, kk, cc⟩ 0 ⟨tr, 1, [false], [0], [0], false⟩ _ a m cp l Hm.out _ HA4.out (HB.out.later Hb4.out)).mono ?_
  rw [X2.out]
  rintro e w5 ⟨⟨b1, k1, f1, b2, k2, f2, b3, k3, f3⟩, rfl, hA, hb⟩
  have hb5 := held_next hb (below_box w5 (.cells (auCells ⟨tr, 2, [false], [x], [0], false⟩ (.slice b1 k1 f1) (.slice b2 k2 f2) (.slice b3 k3 f3)) 33))
  have HX5 := Lib.hid (Whole.made w5 33 (auCells ⟨tr, 2, [false], [x], [0], false⟩ (.slice b1 k1 f1) (.slice b2 k2 f2) (.slice b3 k3 f3)))
  have HA5 := Lib.hid (hA.later (below_box w5 (.cells (auCells ⟨tr, 2, [false], [x], [0], false⟩ (.slice b1 k1 f1) (.slice b2 k2 f2) (.slice b3 k3 f3)) 33)))
  have Hb5 := Lib.hid (held_next Hb4.out hb5)
  have HW5 := Lib.hid (HW4.out.later hb5 HW4.out.lt)
  clear hb hb5 hA d0 d1 d2 d3 d4 d5 e0 e1 e2 e3 e4 e5
  obtain ⟨d0, d1, d2, d3, d4, d5⟩ := config_cells HW5.out
  obtain ⟨e0, e1, e2, e3, e4, e5⟩ := au_cells HX5.out
  simp only at d0 d1 d2 d3 d4 d5 e0 e1 e2 e3 e4 e5
  go_wp2_with fail
  refine (aEnds_calls ⟨1, q, r, p, kk, cc⟩ 0 ⟨tr, 2, [false], [x], [0], false⟩ _ a m cp l Hm.out _ HA5.out (HB.out.later Hb5.out)).mono ?_
  rw [X3'.out]
  rintro e w6 ⟨rfl, hb⟩
  have Hb6 := Lib.hid (held_next Hb5.out hb)
  have HW6 := Lib.hid (HW5.out.later hb HW5.out.lt)
  have HX6 := Lib.hid (HX5.out.later hb HX5.out.lt)
  have HA6 := Lib.hid (HA5.out.later hb)
  clear hb d0 d1 d2 d3 d4 d5 e0 e1 e2 e3 e4 e5
  obtain ⟨d0, d1, d2, d3, d4, d5⟩ := config_cells HW6.out
  obtain ⟨e0, e1, e2, e3, e4, e5⟩ := au_cells HX6.out
  simp only at d0 d1 d2 d3 d4 d5 e0 e1 e2 e3 e4 e5
  go_wp2_with fail
  refine (aNext_calls ⟨1, q, r, p, kk, cc⟩ 0 ⟨tr, 2, [false], [x], [0], false⟩ _ a m cp l Hm.out _ HA6.out (HB.out.later Hb6.out)).mono ?_
  rw [X4.out]
  rintro e w7 ⟨⟨g1, h1, i1, g2, h2, i2, g3, h3, i3⟩, rfl, _, hb⟩
  have hb7 := held_next hb (below_box w7 (.cells (auCells ⟨tr, 2, [false], [x], [0], false⟩ (.slice g1 h1 i1) (.slice g2 h2 i2) (.slice g3 h3 i3)) 33))
  have Hb7 := Lib.hid (held_next Hb6.out hb7)
  have HW7 := Lib.hid (HW6.out.later hb7 HW6.out.lt)
  clear hb hb7 d0 d1 d2 d3 d4 d5 e0 e1 e2 e3 e4 e5
  obtain ⟨d0, d1, d2, d3, d4, d5⟩ := config_cells HW7.out
  simp only at d0 d1 d2 d3 d4 d5
  go_wp2_with fail
  refine (refvalue_calls ⟨1, q, r, p, kk, cc⟩ a m cp l Hm.out _ (HB.out.later Hb7.out)).mono ?_
  rintro e w8 ⟨rfl, hb⟩
  rw [Hv.out]
  have Hb8 := Lib.hid (held_next Hb7.out hb)
  clear hb
  go_wp2_with fail
  go_ret
  exact ⟨by rfl, Hb8.out⟩
end Go.Proofs.Ytgonboccklpoaaa
