/- Package rights, walked: are books right. No law is proved here. -/
import Derived.Test.YtgonboccklpoaaaRightsClos
import Derived.Test.YtgonboccklpoaaaRowMay
import Derived.WalkKit
import Derived.ProofKit
import Derived.OpenShut
import Derived.WalkSpells
import Derived.Laws.AppendOwn
import Derived.Laws.AppendOwnNone
import Derived.Laws.OwnMore
import Derived.Lib.Hide
import Derived.Deep.Draws
import Derived.Deep.Slices
import Derived.Deep.Fields
import Derived.ChangeSame
import Derived.RegionTactic
import Derived.Maps.AppendAt
import Derived.Lib.SmallJoins
import Derived.RangeFuncNested
import Derived.RangeFuncBound
import Derived.RangeFuncLeaves
import Derived.RangeFuncBox
import Derived.Laws.MakeOwn
import Derived.LoopTactic
import Derived.BigRegion
import Derived.WalkLawsBesides
import Derived.IntWalk
import Derived.WalkSmall
import Derived.Deep.QuietTactic
import Derived.BigQuiet
import Derived.Deep.RegionHeld3
import Derived.RangeFuncCalls
import Derived.Shelf.Abstract
import Derived.Shelf.RegionOpen
import Derived.OwnWalkIn
import Derived.TacticsInMore
import Derived.LoopNIn
import Derived.LoopIn
import Derived.Laws.EntriesVeiled
namespace Go.Proofs.Ytgonboccklpoaaa
open Go.RowKit

set_option maxRecDepth 100000 in
set_option maxHeartbeats 8000000 in
theorem rRight_calls (c : Cf) (a : Option Addr) (m d : Nat) (l : List Rw) (hm : m = l.length) (w : World) (hB : Books w (.slice a m d) l) : Calls Try.prog 26 #[cfV c, .slice a m d] w (Says w (rightB c l)) := by
  have hbig : m ≤ 9223372036854775807 := by rw [hm]; exact hB.big
  have HW := Lib.hid (Whole.made w 23 (cfCells c))
  have Hb0 := Lib.hid (below_box w (.cells (cfCells c) 23))
  have HB := Lib.hid hB; clear hB
  have Hm := Lib.hid hm; clear hm
  obtain ⟨n, q, r, p, kk, cc⟩ := c
  obtain ⟨res, Hres⟩ : ∃ z, Hid (rightB ⟨n, q, r, p, kk, cc⟩ l = z) := ⟨_, rfl⟩
  rw [Hres.out]
  obtain ⟨ok, Hok⟩ : ∃ z, Hid (cfB ⟨n, q, r, p, kk, cc⟩ = z) := ⟨_, rfl⟩
  go_enter Try.func26, Try.ntmps26
  go_wp2_with fail
  refine (rMay_calls ⟨n, q, r, p, kk, cc⟩ _).mono ?_
  rintro e w1 ⟨rfl, hb⟩
  rw [Hok.out]
  have Hb1 := Lib.hid (held_next Hb0.out hb)
  have HW1 := Lib.hid (HW.out.later hb HW.out.lt)
  clear hb
  obtain ⟨d0, d1, d2, d3, d4, d5⟩ := config_cells HW1.out
  simp only at d0 d1 d2 d3 d4 d5
  cases ok with
  | false =>
    obtain rfl : res = false := Hres.out.symm.trans (rightB_no fun h => by
      have := cfB_yes h.1
      rw [Hok.out] at this
      cases this)
    go_wp2_with fail
    go_ret
    exact ⟨by rfl, Hb1.out⟩
  | true =>
    by_cases hnm : (m : Int) ≠ n
    · obtain rfl : res = false := Hres.out.symm.trans (rightB_no fun h => hnm (by rw [Hm.out]; exact h.2.1))
      have hnm' : ((m : Int) != n) = true := bne_iff_ne.2 hnm
      go_wp2_with fail
      go_ret
      exact ⟨by rfl, Hb1.out⟩
    have hnme : n = (m : Int) := by omega
    clear hnm
    subst hnme
    go_wp2_with fail
    clear d0 d1 d2 d3 d4 d5
    go_loopw [21] (fun x wr => ∃ k : Nat, k ≤ m ∧ x = .int .i64 k ∧ Hid (∀ q, q < k → mayR (at_ l q).inc (at_ l q).use (at_ l q).out (m : Int) q = true ∧ (at_ l q).inc ≤ cc) ∧ Hid (Below w.heap.size w wr) ∧ Hid (Whole wr w.heap.size 23 (cfCells ⟨m, q, r, p, kk, cc⟩))) (fun x _ => m - (intOf x).toNat)
    case atStart => exact ⟨0, Nat.zero_le _, rfl, fun q hq => absurd hq (Nat.not_lt_zero _), Hb1.out, HW1.out⟩
    case round =>
      obtain ⟨k, hk, rfl, Hl, Hb, HWr⟩ := hrel
      have d0 : wr.cell? ⟨w.heap.size, 0, none⟩ = some (.int .i64 (m : Int)) := HWr.out.cell 0
      have hszr : w.heap.size < wr.heap.size := HWr.out.lt
      by_cases hlt : k < m
      · obtain ⟨b, off, A, C, rfl, hbw, c0, c1, c2, hN⟩ := HB.out.at (k := k) (by have := Hm.out; omega)
        obtain ⟨x, Hx⟩ : ∃ z, Hid ((at_ l k).inc = z) := ⟨_, rfl⟩
        obtain ⟨y, Hy⟩ : ∃ z, Hid ((at_ l k).use = z) := ⟨_, rfl⟩
        obtain ⟨lo, Hlo⟩ : ∃ z, Hid ((at_ l k).out = z) := ⟨_, rfl⟩
        obtain ⟨lm, Hlm⟩ : ∃ z, Hid (z = lo.length) := ⟨_, rfl⟩
        obtain ⟨v, Hv⟩ : ∃ z, Hid (mayR (at_ l k).inc (at_ l k).use (at_ l k).out (m : Int) k = z) := ⟨_, rfl⟩
        rw [Hx.out] at c0
        rw [Hy.out] at c1
        rw [Hlo.out, ← Hlm.out] at c2 hN
        have HN := Lib.hid (hN.later Hb.out); clear hN
        have e0 := cell_later Hb.out c0
        have e1 := cell_later Hb.out c1
        have e2 := cell_later Hb.out c2
        have Hv2 : Hid (mayR x y lo (m : Int) k = v) := by rw [← Hv.out, Hx.out, Hy.out, Hlo.out]; exact rfl
        clear c0 c1 c2
        have k0 : (0 : Int) ≤ (k : Int) := by omega
        have k1 : (k : Int) < (m : Int) := by omega
        have hbr : b < wr.heap.size := by have := Hb.out.size; omega
        have HR := Lib.hid (Whole.made wr 58 #[.int .i64 x, .int .i64 y, .slice A lm C])
        have Hbx := Lib.hid (below_box wr (.cells #[.int .i64 x, .int .i64 y, .slice A lm C] 58))
        go_wp2_with fail
        refine (may_calls A lm C x y m k lo Hlm.out _ (HN.out.later Hbx.out)).mono ?_
        rintro e w2 ⟨rfl, hb⟩
        rw [Hv2.out]
        have Hb2 := Lib.hid (held_next Hbx.out hb)
        have HR2 := Lib.hid (HR.out.later hb HR.out.lt)
        have HW2 := Lib.hid (HWr.out.later Hb2.out HWr.out.lt)
        have Hb2w := Lib.hid (held_next Hb.out Hb2.out)
        clear hb d0 e0 e1 e2 hbr
        have f0 : w2.cell? ⟨wr.heap.size, 0, none⟩ = some (.int .i64 x) := HR2.out.cell 0
        have f5 : w2.cell? ⟨w.heap.size, 5, none⟩ = some (.int .i64 cc) := HW2.out.cell 5
        cases v with
        | false =>
          obtain rfl : res = false := Hres.out.symm.trans (rightB_no fun h => by
            have := (h.2.2.1 k (by have := Hm.out; omega)).1
            simp only at this
            rw [Hv.out] at this
            cases this)
          go_wp2_with fail
          go_ret
          exact ⟨by rfl, Hb2w.out⟩
        | true =>
          by_cases hxc : cc < x
          · obtain rfl : res = false := Hres.out.symm.trans (rightB_no fun h => by
              have := (h.2.2.1 k (by have := Hm.out; omega)).2
              rw [Hx.out] at this
              simp only at this
              omega)
            go_wp2_with fail
            go_ret
            exact ⟨by rfl, Hb2w.out⟩
          · go_wp2_with fail
            go_roundw
            case rel => exact ⟨k + 1, by omega, by go_num, (fun z hz => by
              by_cases e : z = k
              · subst e; exact ⟨Hv.out, by rw [Hx.out]; omega⟩
              · exact Hl.out z (by omega)), Hb2w.out, HW2.out⟩
            case measure => simp [intOf]; omega
      · have hkm : k = m := by omega
        have Hl' : Hid (∀ i, i < l.length → mayR (at_ l i).inc (at_ l i).use (at_ l i).out (m : Int) i = true ∧ (at_ l i).inc ≤ cc) := fun i hi => Hl.out i (by have := Hm.out; omega)
        have HF : Hid (Fits l) := fits_of_may fun i hi => by rw [← Hm.out]; exact (Hl'.out i hi).1
        have h16 : m ≤ 16 := by have := (cfB_ok Hok.out).2.1; simp only at this; omega
        have Hkm := Lib.hid hkm; clear hkm
        clear Hl
        obtain ⟨d0, d1, d2, d3, d4, d5⟩ := config_cells HWr.out
        simp only at d0 d1 d2 d3 d4 d5
        go_wp2_with fail
        refine (rights_calls ⟨m, q, r, p, kk, cc⟩ a m d _).mono ?_
        rintro e w3 ⟨cv, rfl, ⟨bl, ba, bc, bs, rfl, q1, q2, q3, q4⟩, hb⟩
        have Hb3 := Lib.hid (held_next Hb.out hb)
        have Q1 := Lib.hid q1; clear q1
        have Q2 := Lib.hid q2; clear q2
        have Q3 := Lib.hid q3; clear q3
        have Q4 := Lib.hid q4; clear q4
        have HB3 := Lib.hid (HB.out.later Hb3.out)
        clear hb d0 d1 d2 d3 d4 d5
        go_wp2_with fail
        go_loopw [45] (fun x wr => ∃ k : Nat, k ≤ m ∧ x = .int .i64 k ∧ Hid (∀ z, z < k → 0 ≤ rightsV ⟨m, q, r, p, kk, cc⟩ l z) ∧ Hid (Below w3.heap.size w3 wr)) (fun x _ => m - (intOf x).toNat)
        case atStart => exact ⟨0, Nat.zero_le _, rfl, fun q hq => absurd hq (Nat.not_lt_zero _), Below.refl _ _⟩
        case round =>
          clear Hb HWr
          obtain ⟨k, hk, rfl, Hg, Hb⟩ := hrel
          by_cases hlt : k < m
          · obtain ⟨v, Hv⟩ : ∃ z, Hid (rightsV ⟨m, q, r, p, kk, cc⟩ l k = z) := ⟨_, rfl⟩
            go_wp2_with fail
            refine (clos_calls ⟨m, q, r, p, kk, cc⟩ a m d l k Hm.out h16 hlt HF.out bl ba bc bs _ (HB3.out.later Hb.out) (cell_later Hb.out Q1.out) (cell_later Hb.out Q2.out) (cell_later Hb.out Q3.out) (Q4.out.later Hb.out Q4.out.lt)).mono ?_
            rintro e w2 ⟨rfl, hb⟩
            rw [Hv.out]
            have Hb2 := Lib.hid (held_next Hb.out hb)
            clear hb
            by_cases hv : v < 0
            · obtain rfl : res = false := Hres.out.symm.trans (rightB_no fun h => by
                have := h.2.2.2 k (by have := Hm.out; omega)
                rw [Hv.out] at this
                omega)
              go_wp2_with fail
              go_ret
              exact ⟨by rfl, held_next Hb3.out Hb2.out⟩
            · go_wp2_with fail
              go_roundw
              case rel => exact ⟨k + 1, by omega, by go_num, (fun z hz => by
                by_cases e : z = k
                · subst e; rw [Hv.out]; omega
                · exact Hg.out z (by omega)), Hb2.out⟩
              case measure => simp [intOf]; omega
          · have hkm : k = m := by omega
            obtain rfl : res = true := Hres.out.symm.trans (decide_eq_true ⟨cfB_ok Hok.out, by rw [← Hm.out], Hl'.out, fun i hi => Hg.out i (by have := Hm.out; omega)⟩)
            have Hkm2 := Lib.hid hkm; clear hkm
            go_wp2_with fail
            go_ret
            exact ⟨by rfl, held_next Hb3.out Hb.out⟩
end Go.Proofs.Ytgonboccklpoaaa
