/- The document's own, walked: Move. No law is proved here. -/
import Derived.Test.YtkkhecdmjcffjaaRefRightsAsked
import Derived.Test.YtkkhecdmjcffjaaRefRightsCopy
import Derived.WalkKit
import Derived.ProofKit
import Derived.OpenShut
import Derived.WalkSpells
import Derived.Laws.AppendOwn
import Derived.Laws.AppendOwnNone
import Derived.Laws.OwnMore
import Derived.Lib.Hide
import Derived.Deep.Draws
import Derived.Deep.Slices
import Derived.Deep.Fields
import Derived.ChangeSame
import Derived.RegionTactic
import Derived.Maps.AppendAt
import Derived.Lib.SmallJoins
import Derived.WalkLawsBesides
import Derived.LoopTactic
import Derived.IntWalk
import Derived.WalkSmall
import Derived.Deep.QuietTactic
import Derived.BigQuiet
import Derived.Deep.RegionHeld3
import Derived.RangeFuncNested
import Derived.RangeFuncBound
import Derived.RangeFuncLeaves
import Derived.RangeFuncBox
import Derived.Laws.MakeOwn
import Derived.BigRegion
import Derived.Lib.MinMax
import Derived.Deep.DeepCutAuto
namespace Go.Proofs.Ytkkhecdmjcffjaa
open Go.RowKit

set_option maxRecDepth 100000 in
set_option maxHeartbeats 4000000 in
theorem refmove_calls (c : Cf) (a : Option Addr) (m d : Nat) (l : List Rw) (who tg amount : Int) (hm : m = l.length) (w : World) (hB : Books w (.slice a m d) l) :
    Calls Try.prog 12 #[cfV c, .slice a m d, .int .i64 who, .int .i64 tg, .int .i64 amount] w (JoinedB w (moveR c l who tg amount)) := by
  have HW := Lib.hid (Whole.made w 23 (cfCells c))
  have Hb0 := Lib.hid (below_box w (.cells (cfCells c) 23))
  have HB := Lib.hid hB; clear hB
  have Hm := Lib.hid hm; clear hm
  obtain ⟨n, q, r, p, kk, cc⟩ := c
  obtain ⟨ee, He⟩ : ∃ z, Hid (askedV ⟨n, q, r, p, kk, cc⟩ l who amount = z) := ⟨_, rfl⟩
  obtain ⟨res, Hres⟩ : ∃ z, Hid (moveR ⟨n, q, r, p, kk, cc⟩ l who tg amount = z) := ⟨_, rfl⟩
  rw [Hres.out]
  go_enter Try.func12, Try.ntmps12
  go_wp2_with fail
  refine (refasked_calls ⟨n, q, r, p, kk, cc⟩ a m d l who amount Hm.out _ (HB.out.later Hb0.out)).mono ?_
  rintro e w1 ⟨rfl, hb⟩
  rw [He.out]
  have Hb1 := Lib.hid (held_next Hb0.out hb)
  have HW1 := Lib.hid (HW.out.later hb HW.out.lt)
  clear hb
  obtain ⟨d0, d1, d2, d3, d4, d5⟩ := config_cells HW1.out
  simp only at d0 d1 d2 d3 d4 d5
  have hc := askedV_cases ⟨n, q, r, p, kk, cc⟩ l who amount
  rw [He.out] at hc
  have HR1 : Hid ((ee = 1 ∨ tg < 0 ∨ n ≤ tg ∨ tg = who) → res = ([], 1)) := fun h => Hres.out.symm.trans (by
    unfold moveR
    rw [He.out]
    exact if_neg fun h2 => by
      have h3 : tg < n := h2.2.2.1
      rcases h with h | h | h | h
      · exact h2.1 h
      · omega
      · omega
      · exact h2.2.2.2 h)
  have HR0 : Hid (ee ≠ 1 → ¬ tg < 0 → ¬ n ≤ tg → ¬ tg = who → res = (if ee = 0 then
      (if amount ≤ rightsV ⟨n, q, r, p, kk, cc⟩ l who.toNat then
        (if (at_ l who.toNat).out[tg.toNat]?.getD 0 + amount ≤ 1125899906842624 then (l.set who.toNat ⟨(at_ l who.toNat).inc, (at_ l who.toNat).use, (at_ l who.toNat).out.set tg.toNat ((at_ l who.toNat).out[tg.toNat]?.getD 0 + amount)⟩, 0) else ([], 6))
        else ([], 7))
      else ([], 2))) := fun h1 h2 h3 h4 => Hres.out.symm.trans (by
    unfold moveR
    rw [He.out]
    exact if_pos ⟨h1, by omega, by show tg < n; omega, h4⟩)
  rcases hc with rfl | rfl | rfl
  · by_cases t0 : tg < 0
    · obtain rfl : res = ([], 1) := HR1.out (Or.inr (Or.inl t0))
      go_wp2_with fail
      go_ret2
      exact ⟨none, 0, by rfl, books_nil _ _ _ (fun _ => rfl), Hb1.out⟩
    by_cases t1 : n ≤ tg
    · obtain rfl : res = ([], 1) := HR1.out (Or.inr (Or.inr (Or.inl t1)))
      go_wp2_with fail
      go_ret2
      exact ⟨none, 0, by rfl, books_nil _ _ _ (fun _ => rfl), Hb1.out⟩
    by_cases t2 : tg = who
    · obtain rfl : res = ([], 1) := HR1.out (Or.inr (Or.inr (Or.inr t2)))
      go_wp2_with fail
      go_ret2
      exact ⟨none, 0, by rfl, books_nil _ _ _ (fun _ => rfl), Hb1.out⟩
    have hR := HR0.out (by decide) t0 t1 t2
    rw [if_pos rfl] at hR
    obtain ⟨hok, h0, h1, h2, h3⟩ := askedV_zero He.out
    simp only at h1
    have h16 := hok.len
    have hlen := hok.2.1
    simp only at hlen
    have hF := hok.fits
    obtain ⟨k, rfl⟩ : ∃ k : Nat, who = (k : Int) := ⟨who.toNat, by omega⟩
    obtain ⟨j, rfl⟩ : ∃ j : Nat, tg = (j : Int) := ⟨tg.toNat, by omega⟩
    simp only [Int.toNat_natCast] at hR
    have hkl : k < l.length := by omega
    have hjl : j < l.length := by omega
    obtain ⟨hf0, hf1, hf2, hf3, hf4, hf5⟩ := hF k hkl
    have hf6 := hf5 j hjl
    have HF := Lib.hid hF
    obtain ⟨b, off, A, C, rfl, hbw, c0, c1, c2, hN⟩ := (HB.out.later Hb1.out).at (k := k) hkl
    obtain ⟨b2, o2, rfl, hbw2, g0⟩ := hN.at (i := j) (by omega)
    have Hok := Lib.hid hok
    clear hN c0 c1 hok hF hf5
    obtain ⟨ro, Hro⟩ : ∃ z, Hid (at_ l k = z) := ⟨_, rfl⟩
    obtain ⟨z, Hz⟩ : ∃ z, Hid (rightsV ⟨n, q, r, p, kk, cc⟩ l k = z) := ⟨_, rfl⟩
    rw [Hz.out, Hro.out] at hR
    rw [Hro.out] at c2 g0 hf0 hf1 hf2 hf3 hf4 hf6
    obtain ⟨x, Hx⟩ : ∃ z, Hid (ro.out[j]?.getD 0 = z) := ⟨_, rfl⟩
    rw [Hx.out] at g0 hf6 hR
    rw [hf0] at c2
    have HP := Lib.hid hR
    clear hR
    have k1 : (k : Int) < (m : Int) := by have := Hm.out; omega
    have k0 : (0 : Int) ≤ (k : Int) := by omega
    have j1 : (j : Int) < (l.length : Int) := by omega
    have j0 : (0 : Int) ≤ (j : Int) := by omega
    have t3 : ((j : Int) == (k : Int)) = false := beq_eq_false_iff_ne.2 t2
    go_wp2_with fail
    refine (refof_calls ⟨n, q, r, p, kk, cc⟩ (some ⟨b, off, none⟩) m d l k Hm.out (by have := Hm.out; omega) (by omega) HF.out _ (HB.out.later Hb1.out)).mono ?_
    rintro e w5 ⟨rfl, hb5⟩
    rw [Hz.out]
    have Hb5 := Lib.hid (held_next Hb1.out hb5)
    have f2 := cell_later hb5 c2
    have f3 := cell_later hb5 g0
    clear hb5 c2 g0 d0 d1 d2 d3 d4 d5
    by_cases hgt : amount > z
    · obtain rfl : res = ([], 7) := HP.out.trans (if_neg (by omega))
      go_wp2_with fail
      go_ret2
      exact ⟨none, 0, by rfl, books_nil _ _ _ (fun _ => rfl), Hb5.out⟩
    by_cases hgt2 : x + amount > 1125899906842624
    · obtain rfl : res = ([], 6) := HP.out.trans ((if_pos (by omega)).trans (if_neg (by omega)))
      go_wp2_with fail
      go_ret2
      exact ⟨none, 0, by rfl, books_nil _ _ _ (fun _ => rfl), Hb5.out⟩
    · obtain rfl : res = (l.set k ⟨ro.inc, ro.use, ro.out.set j (x + amount)⟩, 0) := HP.out.trans ((if_pos (by omega)).trans (if_pos (by omega)))
      go_wp2_with fail
      refine (refcopy_calls (some ⟨b, off, none⟩) m d l Hm.out (by have := Hm.out; omega) (fun q hq => by have := (HF.out q hq).1; omega) _ (HB.out.later Hb5.out)).mono ?_
      rintro e w2 ⟨A2, C2, rfl, hO, hb⟩
      have Hb2 := Lib.hid (held_next Hb5.out hb)
      have hsz := Hb5.out.size
      obtain ⟨g, hG⟩ := hO
      obtain ⟨bb, cap, b3, c3, hv, hgk, hbb, hblt, hbl2, hfz, hcs, hcell, hG2⟩ := ownG_out (j := j) hG hkl (by rw [Hro.out]; omega) (x + amount)
      simp only [Value.slice.injEq] at hv
      obtain ⟨rfl, _, rfl⟩ := hv
      rw [Hro.out] at hgk hcell hG2
      rw [Hx.out] at hcell
      rw [hf0] at hgk
      have e2 := hcs k 2 hkl (by decide)
      rw [show rowCell l g k 2 = .slice (some ⟨b3, 0, none⟩) l.length c3 from hgk] at e2
      have y0 := hfz j
      obtain ⟨A3, C3, hv3, hBk⟩ := OwnBooks.books ⟨g, hG2⟩ (by rw [List.length_set]; omega) (fun q hq => by
        rw [List.length_set] at hq
        rw [at_set hkl]
        by_cases hqk : q = k
        · rw [if_pos hqk]; show (ro.out.set j (x + amount)).length ≤ _; rw [List.length_set]; omega
        · rw [if_neg hqk]; have := (HF.out q hq).1; omega)
      have Hv3 := Lib.hid hv3
      have HBk := Lib.hid hBk
      have HbE : Hid (Below w.heap.size w (w2.setCell ⟨b3, j, none⟩ (.int .i64 (x + amount)))) := Hb2.out.setCell (p := ⟨b3, j, none⟩) (by show w.heap.size ≤ b3; omega) _
      have k2 : (k : Int) < (l.length : Int) := by omega
      clear hb hG hcs hfz hG2 hv3 hBk f2 f3 hlen hgk
      go_wp2_with fail
      go_region
      go_wp2_with fail
      go_ret2
      exact ⟨A3, C3, by rw [← Hv3.out]; rfl, HBk.out, HbE.out.drew⟩
  · obtain rfl : res = ([], 1) := HR1.out (Or.inl rfl)
    go_wp2_with fail
    go_ret2
    exact ⟨none, 0, by rfl, books_nil _ _ _ (fun _ => rfl), Hb1.out⟩
  · by_cases t0 : tg < 0
    · obtain rfl : res = ([], 1) := HR1.out (Or.inr (Or.inl t0))
      go_wp2_with fail
      go_ret2
      exact ⟨none, 0, by rfl, books_nil _ _ _ (fun _ => rfl), Hb1.out⟩
    by_cases t1 : n ≤ tg
    · obtain rfl : res = ([], 1) := HR1.out (Or.inr (Or.inr (Or.inl t1)))
      go_wp2_with fail
      go_ret2
      exact ⟨none, 0, by rfl, books_nil _ _ _ (fun _ => rfl), Hb1.out⟩
    by_cases t2 : tg = who
    · obtain rfl : res = ([], 1) := HR1.out (Or.inr (Or.inr (Or.inr t2)))
      go_wp2_with fail
      go_ret2
      exact ⟨none, 0, by rfl, books_nil _ _ _ (fun _ => rfl), Hb1.out⟩
    have t3 : (tg == who) = false := beq_eq_false_iff_ne.2 t2
    obtain rfl : res = ([], 2) := (HR0.out (by decide) t0 t1 t2).trans (if_neg (by decide))
    go_wp2_with fail
    go_ret2
    exact ⟨none, 0, by rfl, books_nil _ _ _ (fun _ => rfl), Hb1.out⟩
end Go.Proofs.Ytkkhecdmjcffjaa
