/- Parts, as far as BookApartCards reaches them, of: RefBookMay, RefBookTake, BookPutMath, PaintPutMath, RefPaintPut, RefMailNums, MailMore, RefBookPut, GoodB, MailGo. No law is proved here. -/
import Derived.Test.YtnkgakhnlbifdaaGreatAp5
import Derived.IntWalk
import Derived.Test.YtnkgakhnlbifdaaGreatAp11
import Derived.Test.YtnkgakhnlbifdaaGreatAp13
import Derived.Test.YtnkgakhnlbifdaaGreatAp14
import Derived.Test.YtnkgakhnlbifdaaGreatAp10
import Derived.Deep.QuietTactic
import Derived.BigQuiet
import Derived.WalkSmall
import Derived.Test.YtnkgakhnlbifdaaGreatAp8
import Derived.Test.YtnkgakhnlbifdaaGreatAp9
import Derived.Test.YtnkgakhnlbifdaaGreatAp4
import Derived.Deep.LoopGhost
import Derived.BigRegion
import Derived.Test.YtnkgakhnlbifdaaGreatAp0
namespace Go.Proofs.YtnkgakhnlbifdaaGreat
open Go.RowKit
def KeptK (w : World) (g : Nat) (c : Cf) (x : Bk) (p : Bl) (wx : World) : Prop := Below w.heap.size w wx ∧ Whole wx g 23 (cfCells c) ∧ Whole wx (g + 1) 37 (bkAtC x p)
theorem KeptK.later {w : World} {g : Nat} {c : Cf} {x : Bk} {p : Bl} {wx wy : World} (h : KeptK w g c x p wx) (hb : Below wx.heap.size wx wy) : KeptK w g c x p wy := ⟨held_next h.1 hb, h.2.1.later hb h.2.1.lt, h.2.2.later hb h.2.2.lt⟩
theorem bookB_no {c : Cf} {who : Int} {x : Bk} (h : ¬ bookOk c who x) : bookB c who x = false := decide_eq_false h
set_option maxRecDepth 100000 in
set_option maxHeartbeats 16000000 in
theorem refkmay_calls (c : Cf) (who : Int) (x : Bk) (p : Bl) (w : World) (hK : BkIn w p x) :
 Calls Tryz.prog 14 #[cfV c, .int .i64 who, bkAt x p] w (Says w (bookB c who x)) := by
 have HK : Hid (KeptK w w.heap.size c x p ((w.alloc (.cells (cfCells c) 23)).alloc (.cells (bkAtC x p) 37))) :=
  ⟨below_two w _ _, (Whole.made w _ _).alloc _, Whole.made2 w _ _ _⟩
 obtain ⟨⟨hm1, hB1⟩, ⟨hm2, hB2⟩, ⟨hm3, hB3⟩, ⟨hm4, hB4⟩, hA⟩ := hK
 have b2 : p.m2 ≤ 9223372036854775807 := by rw [hm2]; exact hB2.1
 have b3 : p.m3 ≤ 9223372036854775807 := by rw [hm3]; exact hB3.1
 have ba : p.al.m1 ≤ 9223372036854775807 ∧ p.al.m2 ≤ 9223372036854775807 ∧ p.al.m3 ≤ 9223372036854775807 := ⟨by rw [hA.1.1]; exact hA.1.2.1, by rw [hA.2.1.1]; exact hA.2.1.2.1, by rw [hA.2.2.1]; exact hA.2.2.2.1⟩
 obtain ⟨n, q, r, pp, kk, cc⟩ := c
 obtain ⟨clk, rows, line, outs, asks, notes, ⟨tr, ph, told, use, inc, moved⟩⟩ := x
 obtain ⟨a1, m1, c1, a2, m2, c2, a3, m3, c3, a4, m4, c4, ⟨a5, m5, c5, a6, m6, c6, a7, m7, c7⟩⟩ := p
 simp only at hm1 hB1 hm2 hB2 hm3 hB3 hm4 hB4 b2 b3 ba
 have HB1 := Lib.hid hB1; clear hB1
 have HB2 := Lib.hid hB2; clear hB2
 have HB3 := Lib.hid hB3; clear hB3
 have HB4 := Lib.hid hB4; clear hB4
 have HA := Lib.hid hA; clear hA
 have HBa := Lib.hid ba; clear ba
 have Hm1 := Lib.hid hm1; clear hm1
 have Hm2 := Lib.hid hm2; clear hm2
 have Hm3 := Lib.hid hm3; clear hm3
 have Hm4 := Lib.hid hm4; clear hm4
 obtain ⟨res, Hres⟩ : ∃ z, Hid (bookB ⟨n, q, r, pp, kk, cc⟩ who ⟨clk, rows, line, outs, asks, notes, ⟨tr, ph, told, use, inc, moved⟩⟩ = z) := ⟨_, rfl⟩
 have no : ¬ bookOk ⟨n, q, r, pp, kk, cc⟩ who ⟨clk, rows, line, outs, asks, notes, ⟨tr, ph, told, use, inc, moved⟩⟩ → res = false := fun h => Hres.out.symm.trans (bookB_no h)
 have No := Lib.hid no; clear no
 rw [Hres.out]
 obtain ⟨ok, Hok⟩ : ∃ z, Hid (rightB ⟨n, q, r, pp, kk, cc⟩ rows = z) := ⟨_, rfl⟩
 obtain ⟨lv, Hlv⟩ : ∃ z, Hid (lineB ⟨n, q, r, pp, kk, cc⟩ who line = z) := ⟨_, rfl⟩
 go_enter Tryz.func14, Tryz.ntmps14
 go_wp2_with fail
 refine (refright_calls ⟨n, q, r, pp, kk, cc⟩ a1 m1 c1 rows Hm1.out _ (HB1.out.later HK.out.1)).mono ?_
 rintro e w1 ⟨rfl, hb⟩
 rw [Hok.out]
 have HK1 := Lib.hid (HK.out.later hb)
 clear hb HK
 obtain ⟨d0, d1, d2, d3, d4, d5⟩ := config_cells HK1.out.2.1
 obtain ⟨⟨e0, e1, e2, e3⟩, ⟨e4, e5, e6, e7⟩, e8, e9, e10, e11⟩ := bk_cells HK1.out.2.2
 simp only at d0 d1 d2 d3 d4 d5 e0 e1 e2 e3 e4 e5 e6 e7 e8 e9 e10 e11
 cases ok with
 | false =>
   obtain rfl : res = false := No.out fun h => by
    have : rightB ⟨n, q, r, pp, kk, cc⟩ rows = true := decide_eq_true h.1
    rw [Hok.out] at this
    cases this
   go_wp2_with fail
   go_ret
   exact ⟨by rfl, HK1.out.1⟩
 | true =>
 have Hro := Lib.hid (rightB_ok Hok.out)
 by_cases h1 : who < 0
 · obtain rfl : res = false := No.out fun h => by have h3 : 0 ≤ who := h.2.1.1; omega
   go_wp2_with fail
   go_ret
   exact ⟨by rfl, HK1.out.1⟩
 by_cases h2 : n ≤ who
 · obtain rfl : res = false := No.out fun h => by have h3 : who < n := h.2.1.2; omega
   go_wp2_with fail
   go_ret
   exact ⟨by rfl, HK1.out.1⟩
 by_cases h3 : clk < 0
 · obtain rfl : res = false := No.out fun h => by have h3 : 0 ≤ clk := h.2.2.1.1; omega
   go_wp2_with fail
   go_ret
   exact ⟨by rfl, HK1.out.1⟩
 by_cases h4 : 1125899906842624 < clk
 · obtain rfl : res = false := No.out fun h => by have h3 : clk ≤ 1125899906842624 := h.2.2.1.2; omega
   go_wp2_with fail
   go_ret
   exact ⟨by rfl, HK1.out.1⟩
 have hq : q ≤ 1000000 ∧ 0 ≤ q := by have h := Hro.out.1; unfold cfOk at h; simp only at h; omega
 obtain ⟨hq1, hq2⟩ := hq
 go_wp2_with fail
 refine (reflinemay_calls ⟨n, q, r, pp, kk, cc⟩ who a2 m2 c2 line Hm2.out _ (HB2.out.later HK1.out.1)).mono ?_
 rintro e w2 ⟨rfl, hb⟩
 rw [Hlv.out]
 have HK2 := Lib.hid (HK1.out.later hb)
 clear hb d0 d1 d2 d3 d4 d5 e0 e1 e2 e3 e4 e5 e6 e7 e8 e9 e10 e11
 obtain ⟨d0, d1, d2, d3, d4, d5⟩ := config_cells HK2.out.2.1
 obtain ⟨⟨e0, e1, e2, e3⟩, ⟨e4, e5, e6, e7⟩, e8, e9, e10, e11⟩ := bk_cells HK2.out.2.2
 simp only at d0 d1 d2 d3 d4 d5 e0 e1 e2 e3 e4 e5 e6 e7 e8 e9 e10 e11
 cases lv with
 | false =>
   obtain rfl : res = false := No.out fun h => by
    have : lineB ⟨n, q, r, pp, kk, cc⟩ who line = true := decide_eq_true h.2.2.2.1
    rw [Hlv.out] at this
    cases this
   go_wp2_with fail
   go_ret
   exact ⟨by rfl, HK2.out.1⟩
 | true =>
 by_cases h5 : q + 1 < (m3 : Int)
 · obtain rfl : res = false := No.out fun h => by have h3 : (outs.length : Int) ≤ q + 1 := h.2.2.2.2.1.1; have := Hm3.out; omega
   go_wp2_with fail
   go_ret
   exact ⟨by rfl, HK2.out.1⟩
 by_cases h6 : asks < 0
 · obtain rfl : res = false := No.out fun h => by have h3 : 0 ≤ asks := h.2.2.2.2.1.2.1; omega
   go_wp2_with fail
   go_ret
   exact ⟨by rfl, HK2.out.1⟩
 by_cases h7 : r < asks
 · obtain rfl : res = false := No.out fun h => by have h3 : asks ≤ r := h.2.2.2.2.1.2.2; omega
   go_wp2_with fail
   go_ret
   exact ⟨by rfl, HK2.out.1⟩
 have Hsm : Hid ((0 ≤ who ∧ who < n) ∧ (0 ≤ clk ∧ clk ≤ 1125899906842624) ∧ (m3 : Int) ≤ q + 1 ∧ 0 ≤ asks ∧ asks ≤ r) := ⟨by omega, by omega, by omega, by omega, by omega⟩
 have hc1 : clk ≤ 1125899906842624 := by omega
 have hc0 : 0 ≤ clk := by omega
 have hk0 : 0 ≤ asks := by omega
 go_wp2_with fail
 clear d0 d1 d2 d3 d4 d5 e0 e1 e2 e3 e4 e5 e6 e7 e8 e9 e10 e11 h1 h2 h3 h4 h5 h6 h7
 go_loopw [7] (fun s7 wr => ∃ k : Nat, k ≤ m2 ∧ s7 = .int .i64 k ∧ Hid (∀ i, i < k → (rqAt line i).t ≤ clk) ∧ Hid (KeptK w w.heap.size ⟨n, q, r, pp, kk, cc⟩ ⟨clk, rows, line, outs, asks, notes, ⟨tr, ph, told, use, inc, moved⟩⟩ ⟨a1, m1, c1, a2, m2, c2, a3, m3, c3, a4, m4, c4, ⟨a5, m5, c5, a6, m6, c6, a7, m7, c7⟩⟩ wr)) (fun s7 _ => m2 - (intOf s7).toNat)
 case atStart => exact ⟨0, Nat.zero_le _, rfl, fun z hz => absurd hz (Nat.not_lt_zero _), HK2.out⟩
 case round =>
  obtain ⟨k, hk, rfl, Hl, HKr⟩ := hrel
  obtain ⟨d0, d1, d2, d3, d4, d5⟩ := config_cells HKr.out.2.1
  obtain ⟨⟨e0, e1, e2, e3⟩, ⟨e4, e5, e6, e7⟩, e8, e9, e10, e11⟩ := bk_cells HKr.out.2.2
  simp only at d0 d1 d2 d3 d4 d5 e0 e1 e2 e3 e4 e5 e6 e7 e8 e9 e10 e11
  by_cases hlt : k < m2
  · obtain ⟨b, off, rfl, g0, g1, g2⟩ := (HB2.out.later HKr.out.1).at (i := k) (by have := Hm2.out; omega)
    obtain ⟨y, Hy⟩ : ∃ z, Hid (rqAt line k = z) := ⟨_, rfl⟩
    rw [Hy.out] at g0 g1 g2
    obtain ⟨yt, ya, ym⟩ := y
    simp only at g0 g1 g2
    have k0 : (0 : Int) ≤ (k : Int) := by omega
    have k1 : (k : Int) < (m2 : Int) := by omega
    by_cases ht : clk < yt
    · obtain rfl : res = false := No.out fun h => by
       have h9 := h.2.2.2.2.2.1 k (by have := Hm2.out; show k < line.length; omega)
       rw [Hy.out] at h9
       have h8 : yt ≤ clk := h9
       omega
      go_wp2_with fail
      go_quiet (fail)
      go_wp2_with fail
      go_ret
      exact ⟨by rfl, below_drewN HKr.out.1 _⟩
    · go_wp2_with fail
      go_quiet (fail)
      go_wp2_with fail
      go_roundw
      case rel => exact ⟨k + 1, by omega, by go_num, (fun z hz => by
       by_cases e : z = k
       · subst e; rw [Hy.out]; show yt ≤ clk; omega
       · exact Hl.out z (by omega)), HKr.out.later (below_drewN (Below.refl _ _) _)⟩
      case measure => simp [intOf]; omega
  · obtain rfl : m2 = k := by omega
    have Hll : Hid (∀ i, i < line.length → (rqAt line i).t ≤ clk) := fun i hi => Hl.out i (by have := Hm2.out; omega)
    clear Hl
    go_wp2_with fail
    clear d0 d1 d2 d3 d4 d5 e0 e1 e2 e3 e4 e5 e6 e7 e8 e9 e10 e11
    go_loopw [8] (fun s8 wr => ∃ k : Nat, k ≤ m3 ∧ s8 = .int .i64 k ∧ Hid (∀ i, i < k → outB ⟨n, q, r, pp, kk, cc⟩ who clk (rqAt outs i) = true) ∧ Hid (KeptK w w.heap.size ⟨n, q, r, pp, kk, cc⟩ ⟨clk, rows, line, outs, asks, notes, ⟨tr, ph, told, use, inc, moved⟩⟩ ⟨a1, m1, c1, a2, m2, c2, a3, m3, c3, a4, m4, c4, ⟨a5, m5, c5, a6, m6, c6, a7, m7, c7⟩⟩ wr)) (fun s8 _ => m3 - (intOf s8).toNat)
    case atStart => exact ⟨0, Nat.zero_le _, rfl, fun z hz => absurd hz (Nat.not_lt_zero _), HKr.out⟩
    case round =>
     clear HKr
     obtain ⟨j, hj, rfl, Ho, HKr⟩ := hrel
     obtain ⟨d0, d1, d2, d3, d4, d5⟩ := config_cells HKr.out.2.1
     obtain ⟨⟨e0, e1, e2, e3⟩, ⟨e4, e5, e6, e7⟩, e8, e9, e10, e11⟩ := bk_cells HKr.out.2.2
     simp only at d0 d1 d2 d3 d4 d5 e0 e1 e2 e3 e4 e5 e6 e7 e8 e9 e10 e11
     by_cases hlt : j < m3
     · obtain ⟨b, off, rfl, g0, g1, g2⟩ := (HB3.out.later HKr.out.1).at (i := j) (by have := Hm3.out; omega)
       obtain ⟨y, Hy⟩ : ∃ z, Hid (rqAt outs j = z) := ⟨_, rfl⟩
       rw [Hy.out] at g0 g1 g2
       obtain ⟨yt, ya, ym⟩ := y
       simp only at g0 g1 g2
       have k0 : (0 : Int) ≤ (j : Int) := by omega
       have k1 : (j : Int) < (m3 : Int) := by omega
       obtain ⟨v, Hv⟩ : ∃ z, Hid (mayB yt ya n = z) := ⟨_, rfl⟩
       obtain ⟨ov, Hov⟩ : ∃ z, Hid (outB ⟨n, q, r, pp, kk, cc⟩ who clk ⟨yt, ya, ym⟩ = z) := ⟨_, rfl⟩
       have hov : ov = (v && (decide (ya = who ∧ yt ≤ clk) && decide (ym = 0 ∨ ym = 7))) := by rw [← Hov.out, ← Hv.out]; rfl
       have Hov2 := Lib.hid hov
       clear hov
       have Hfalse : Hid (ov = false → res = false) := fun h0 => No.out fun h => by
        have h9 := h.2.2.2.2.2.2.1 j (by have := Hm3.out; show j < outs.length; omega)
        have h8 : outB ⟨n, q, r, pp, kk, cc⟩ who clk (rqAt outs j) = true := h9
        rw [Hy.out, Hov.out, h0] at h8
        cases h8
       have Hnext : Hid (ov = true → ∀ i, i < j + 1 → outB ⟨n, q, r, pp, kk, cc⟩ who clk (rqAt outs i) = true) := fun h0 i hi => by
        by_cases e : i = j
        · subst e; rw [Hy.out, Hov.out]; exact h0
        · exact Ho.out i (by omega)
       have HKb := Lib.hid (HKr.out.later (below_box _ (.cells #[.int .i64 yt, .int .i64 ya, .int .i64 ym] 69)))
       have HO := Lib.hid (Whole.made wr 69 #[.int .i64 yt, .int .i64 ya, .int .i64 ym])
       obtain ⟨d0, d1, d2, d3, d4, d5⟩ := config_cells HKb.out.2.1
       obtain ⟨⟨e0, e1, e2, e3⟩, ⟨e4, e5, e6, e7⟩, e8, e9, e10, e11⟩ := bk_cells HKb.out.2.2
       simp only at d0 d1 d2 d3 d4 d5 e0 e1 e2 e3 e4 e5 e6 e7 e8 e9 e10 e11
       obtain ⟨o0, o1, o2⟩ : _ ∧ _ ∧ _ := ⟨HO.out.cell 0, HO.out.cell 1, HO.out.cell 2⟩
       go_wp2_with fail
       refine (refstampmay_calls yt ya n _).mono ?_
       rintro e w4 ⟨rfl, hb⟩
       rw [Hv.out]
       have HK4 := Lib.hid (HKb.out.later hb)
       replace o0 := cell_later hb o0
       replace o1 := cell_later hb o1
       replace o2 := cell_later hb o2
       clear hb d0 d1 d2 d3 d4 d5 e0 e1 e2 e3 e4 e5 e6 e7 e8 e9 e10 e11
       obtain ⟨d0, d1, d2, d3, d4, d5⟩ := config_cells HK4.out.2.1
       obtain ⟨⟨e0, e1, e2, e3⟩, ⟨e4, e5, e6, e7⟩, e8, e9, e10, e11⟩ := bk_cells HK4.out.2.2
       simp only at d0 d1 d2 d3 d4 d5 e0 e1 e2 e3 e4 e5 e6 e7 e8 e9 e10 e11
       cases v with
       | false =>
         obtain rfl : ov = false := Hov2.out
         obtain rfl : res = false := Hfalse.out rfl
         go_wp2_with fail
         go_ret
         exact ⟨by rfl, HK4.out.1⟩
       | true =>
         by_cases ha : ya = who
         · by_cases ht : yt ≤ clk
           · by_cases h0 : ym = 0
             · obtain rfl : ov = true := Hov2.out.trans (by simp [ha, ht, h0])
               subst ha h0
               go_wp2_with fail
               go_roundw
               case rel => exact ⟨j + 1, by omega, by go_num, Hnext.out (by trivial), HK4.out⟩
               case measure => simp [intOf]; omega
             · by_cases h7 : ym = 7
               · obtain rfl : ov = true := Hov2.out.trans (by simp [ha, ht, h7])
                 subst ha h7
                 go_wp2_with fail
                 go_roundw
                 case rel => exact ⟨j + 1, by omega, by go_num, Hnext.out (by trivial), HK4.out⟩
                 case measure => simp [intOf]; omega
               · obtain rfl : ov = false := Hov2.out.trans (by simp [ha, ht, h0, h7])
                 obtain rfl : res = false := Hfalse.out rfl
                 have n0 : (ym != 0) = true := bne_iff_ne.2 h0
                 have n7 : (ym != 7) = true := bne_iff_ne.2 h7
                 subst ha
                 clear h0 h7
                 go_wp2_with fail
                 go_ret
                 exact ⟨by rfl, HK4.out.1⟩
           · obtain rfl : ov = false := Hov2.out.trans (by simp [ha, ht])
             obtain rfl : res = false := Hfalse.out rfl
             subst ha
             go_wp2_with fail
             go_ret
             exact ⟨by rfl, HK4.out.1⟩
         · obtain rfl : ov = false := Hov2.out.trans (by simp [ha])
           obtain rfl : res = false := Hfalse.out rfl
           have na : (ya != who) = true := bne_iff_ne.2 ha
           clear ha
           go_wp2_with fail
           go_ret
           exact ⟨by rfl, HK4.out.1⟩
     · obtain rfl : m3 = j := by omega
       have Hoo : Hid (∀ i, i < outs.length → outB ⟨n, q, r, pp, kk, cc⟩ who clk (rqAt outs i) = true) := fun i hi => Ho.out i (by have := Hm3.out; omega)
       clear Ho
       obtain ⟨nv, Hnv⟩ : ∃ z, Hid (notesB ⟨n, q, r, pp, kk, cc⟩ who notes = z) := ⟨_, rfl⟩
       obtain ⟨av, Hav⟩ : ∃ z, Hid (auB ⟨n, q, r, pp, kk, cc⟩ who ⟨tr, ph, told, use, inc, moved⟩ = z) := ⟨_, rfl⟩
       obtain ⟨zv, Hzv⟩ : ∃ z, Hid (noneA ⟨tr, ph, told, use, inc, moved⟩ = z) := ⟨_, rfl⟩
       have hline : lineOk ⟨n, q, r, pp, kk, cc⟩ who line := of_decide_eq_true Hlv.out
       have Hline := Lib.hid hline; clear hline
       have hempty : line = [] ↔ m2 = 0 := by rw [Hm2.out]; simp
       have hres : res = decide ((m2 = 0 → asks = 0 ∧ zv = true) ∧ nv = true ∧ av = true) := by
        rw [← Hres.out]
        unfold bookB
        congr 1
        rw [← Hnv.out, ← Hav.out, ← Hzv.out, eq_iff_iff]
        constructor
        · intro h
          exact ⟨fun h0 => ⟨(h.2.2.2.2.2.2.2.1 (hempty.2 h0)).1, decide_eq_true (h.2.2.2.2.2.2.2.1 (hempty.2 h0)).2⟩, decide_eq_true h.2.2.2.2.2.2.2.2.1, decide_eq_true h.2.2.2.2.2.2.2.2.2⟩
        · intro h
          exact ⟨Hro.out, Hsm.out.1, Hsm.out.2.1, Hline.out, ⟨by show (outs.length : Int) ≤ q + 1; rw [← Hm3.out]; exact Hsm.out.2.2.1, Hsm.out.2.2.2⟩, Hll.out, Hoo.out, fun h0 => ⟨(h.1 (hempty.1 h0)).1, of_decide_eq_true (h.1 (hempty.1 h0)).2⟩, of_decide_eq_true h.2.1, of_decide_eq_true h.2.2⟩
       have HRes := Lib.hid hres
       clear hres hempty
       obtain ⟨d0, d1, d2, d3, d4, d5⟩ := config_cells HKr.out.2.1
       obtain ⟨⟨e0, e1, e2, e3⟩, ⟨e4, e5, e6, e7⟩, e8, e9, e10, e11⟩ := bk_cells HKr.out.2.2
       simp only at d0 d1 d2 d3 d4 d5 e0 e1 e2 e3 e4 e5 e6 e7 e8 e9 e10 e11
       by_cases hm20 : m2 = 0
       · subst hm20
         by_cases hk : 0 < asks
         · obtain rfl : res = false := by rw [HRes.out]; simp; omega
           go_wp2_with fail
           go_ret
           exact ⟨by rfl, HKr.out.1⟩
         · obtain rfl : asks = 0 := by omega
           go_wp2_with fail
           refine (refnone_calls ⟨tr, ph, told, use, inc, moved⟩ ⟨a5, m5, c5, a6, m6, c6, a7, m7, c7⟩ _ HA.out.1.1 HA.out.2.1.1 HA.out.2.2.1 HBa.out).mono ?_
           rintro e w4 ⟨rfl, hb⟩
           rw [Hzv.out]
           have HK4 := Lib.hid (HKr.out.later hb)
           clear hb d0 d1 d2 d3 d4 d5 e0 e1 e2 e3 e4 e5 e6 e7 e8 e9 e10 e11
           obtain ⟨d0, d1, d2, d3, d4, d5⟩ := config_cells HK4.out.2.1
           obtain ⟨⟨e0, e1, e2, e3⟩, ⟨e4, e5, e6, e7⟩, e8, e9, e10, e11⟩ := bk_cells HK4.out.2.2
           simp only at d0 d1 d2 d3 d4 d5 e0 e1 e2 e3 e4 e5 e6 e7 e8 e9 e10 e11
           cases zv with
           | false =>
             obtain rfl : res = false := by rw [HRes.out]; simp
             go_wp2_with fail
             go_ret
             exact ⟨by rfl, HK4.out.1⟩
           | true =>
             go_wp2_with fail
             refine (refclaimmay_calls ⟨n, q, r, pp, kk, cc⟩ who a4 m4 c4 notes Hm4.out _ (HB4.out.later HK4.out.1)).mono ?_
             rintro e w5 ⟨rfl, hb⟩
             rw [Hnv.out]
             have HK5 := Lib.hid (HK4.out.later hb)
             clear hb d0 d1 d2 d3 d4 d5 e0 e1 e2 e3 e4 e5 e6 e7 e8 e9 e10 e11
             obtain ⟨d0, d1, d2, d3, d4, d5⟩ := config_cells HK5.out.2.1
             obtain ⟨⟨e0, e1, e2, e3⟩, ⟨e4, e5, e6, e7⟩, e8, e9, e10, e11⟩ := bk_cells HK5.out.2.2
             simp only at d0 d1 d2 d3 d4 d5 e0 e1 e2 e3 e4 e5 e6 e7 e8 e9 e10 e11
             cases nv with
             | false =>
               obtain rfl : res = false := by rw [HRes.out]; simp
               go_wp2_with fail
               go_ret
               exact ⟨by rfl, HK5.out.1⟩
             | true =>
               go_wp2_with fail
               refine (refauditmay_calls ⟨n, q, r, pp, kk, cc⟩ who ⟨tr, ph, told, use, inc, moved⟩ ⟨a5, m5, c5, a6, m6, c6, a7, m7, c7⟩ _ (HA.out.later HK5.out.1)).mono ?_
               rintro e w6 ⟨rfl, hb⟩
               rw [Hav.out]
               have HK6 := Lib.hid (HK5.out.later hb)
               obtain rfl : res = av := by rw [HRes.out]; simp
               clear hb
               go_wp2_with fail
               go_ret
               exact ⟨by rfl, HK6.out.1⟩
       · have hz0 : ((m2 : Int) == 0) = false := beq_eq_false_iff_ne.2 (by omega)
         have Hm20 := Lib.hid hm20; clear hm20
         go_wp2_with fail
         refine (refclaimmay_calls ⟨n, q, r, pp, kk, cc⟩ who a4 m4 c4 notes Hm4.out _ (HB4.out.later HKr.out.1)).mono ?_
         rintro e w5 ⟨rfl, hb⟩
         rw [Hnv.out]
         have HK5 := Lib.hid (HKr.out.later hb)
         clear hb d0 d1 d2 d3 d4 d5 e0 e1 e2 e3 e4 e5 e6 e7 e8 e9 e10 e11
         obtain ⟨d0, d1, d2, d3, d4, d5⟩ := config_cells HK5.out.2.1
         obtain ⟨⟨e0, e1, e2, e3⟩, ⟨e4, e5, e6, e7⟩, e8, e9, e10, e11⟩ := bk_cells HK5.out.2.2
         simp only at d0 d1 d2 d3 d4 d5 e0 e1 e2 e3 e4 e5 e6 e7 e8 e9 e10 e11
         cases nv with
         | false =>
           obtain rfl : res = false := by rw [HRes.out]; simp
           go_wp2_with fail
           go_ret
           exact ⟨by rfl, HK5.out.1⟩
         | true =>
           go_wp2_with fail
           refine (refauditmay_calls ⟨n, q, r, pp, kk, cc⟩ who ⟨tr, ph, told, use, inc, moved⟩ ⟨a5, m5, c5, a6, m6, c6, a7, m7, c7⟩ _ (HA.out.later HK5.out.1)).mono ?_
           rintro e w6 ⟨rfl, hb⟩
           rw [Hav.out]
           have HK6 := Lib.hid (HK5.out.later hb)
           obtain rfl : res = av := by rw [HRes.out]; simp [Hm20.out]
           clear hb
           go_wp2_with fail
           go_ret
           exact ⟨by rfl, HK6.out.1⟩
end Go.Proofs.YtnkgakhnlbifdaaGreat
namespace Go.Proofs.YtnkgakhnlbifdaaGreat
open Go.RowKit
theorem pairN_take {l : List Rq} {k : Nat} {y : Rq} (h : k < l.length) (hy : rqAt l k = y) : pairN (l.take (k + 1)) = pairN (l.take k) ++ [y.t, y.m] := by
 rw [List.take_succ_eq_append_getElem h]
 unfold rqAt at hy
 rw [List.getElem?_eq_getElem h] at hy
 have h8 : l[k] = y := hy
 rw [h8]
 unfold pairN
 rw [List.flatMap_append, List.flatMap_singleton]
theorem notesN_take {l : List Nt} {k : Nat} {y : Nt} (h : k < l.length) (hy : ntAt l k = y) : notesN (l.take (k + 1)) = notesN (l.take k) ++ noteN y := by
 rw [List.take_succ_eq_append_getElem h]
 unfold ntAt at hy
 rw [List.getElem?_eq_getElem h] at hy
 have h8 : l[k] = y := hy
 rw [h8]
 unfold notesN
 rw [List.flatMap_append, List.flatMap_singleton]
def tripK (a : Au) (k : Nat) : List Int := (List.range k).flatMap fun i => [oneI (a.told[i]?.getD false), a.use[i]?.getD 0, a.inc[i]?.getD 0]
theorem tripK_succ (a : Au) (k : Nat) : tripK a (k + 1) = tripK a k ++ [oneI (a.told[k]?.getD false), a.use[k]?.getD 0, a.inc[k]?.getD 0] := by
 unfold tripK
 rw [List.range_succ, List.flatMap_append, List.flatMap_singleton]
theorem tripK_len (a : Au) (k : Nat) : (tripK a k).length = 3 * k := trip_len _ _ fun _ => rfl
theorem rest_none (x : Bk) (h : x.au = au0) : restN x = ((((((x.line.length : Int) :: pairN x.line) ++ [(x.outs.length : Int)]) ++ pairN x.outs) ++ [x.asks]) ++ notesN x.notes) ++ [x.au.try_, x.au.ph] := by
 unfold restN auN
 rw [if_pos h]
 simp
theorem rest_some (x : Bk) (h : x.au ≠ au0) : restN x = (((((((x.line.length : Int) :: pairN x.line) ++ [(x.outs.length : Int)]) ++ pairN x.outs) ++ [x.asks]) ++ notesN x.notes) ++ [x.au.try_, x.au.ph] ++ tripK x.au x.au.told.length) ++ [oneI x.au.moved] := by
 unfold restN auN tripK tripN
 rw [if_neg h]
 simp
end Go.Proofs.YtnkgakhnlbifdaaGreat
namespace Go.Proofs.YtnkgakhnlbifdaaGreat
open Go.RowKit
theorem take_flat {l : List Rw} {i : Nat} (h : i < l.length) : flatR (l.take (i + 1)) = flatR (l.take i) ++ rowN (at_ l i) := by rw [take_at h, flatR_append, flatR_one]
theorem flat_room {l : List Rw} {i : Nat} (h : i < l.length) : (flatR (l.take i)).length + 2 + (at_ l i).out.length ≤ (flatR l).length := by
 have h1 : flatR l = flatR (l.take (i + 1)) ++ flatR (l.drop (i + 1)) := by rw [← flatR_append, List.take_append_drop]
 rw [h1, take_flat h, List.length_append, List.length_append]
 simp [rowN]; omega
theorem bytes_more (zs : List Int) (P : List Int) (x : Int) : (zs ++ bytesN (P.map u64n)) ++ PackMath.num (u64n x) = zs ++ bytesN ((P ++ [x]).map u64n) := by
 rw [List.map_append, bytesN_append, List.map_singleton, bytesN_one, List.append_assoc]
theorem bytes_room (zs P : List Int) : (zs ++ bytesN (P.map u64n)).length ≤ zs.length + 10 * P.length := by
 have := bytesN_len (P := P.map u64n) (fun v hv => by
  obtain ⟨x, _, rfl⟩ := List.mem_map.1 hv
  exact u64n_lt x)
 rw [List.length_map] at this
 rw [List.length_append]; omega
theorem wrap_u64n (x : Int) : IntKind.u64.wrap x = ((u64n x : Nat) : Int) := by rw [IntKind.wrap_u64]; unfold u64n; omega
end Go.Proofs.YtnkgakhnlbifdaaGreat
namespace Go.Proofs.YtnkgakhnlbifdaaGreat
open Go.RowKit
def GoodB (w0 : World) (v : Value) (zs : List Int) : Prop := ∃ A n C, v = .slice A n C ∧ n = zs.length ∧ n ≤ C ∧ ∀ W, Below w0.heap.size w0 W → Bytes W (.slice A n C) zs
end Go.Proofs.YtnkgakhnlbifdaaGreat
namespace Go.Proofs.YtnkgakhnlbifdaaGreat
open Go.RowKit
open Classical in
noncomputable def rd1 (s : List Int × Bool) : Int × (List Int × Bool) := if h : ∃ x : Nat × List Int, PackMath.Begins s.1 x.1 x.2 then (IntKind.i64.wrap (h.choose.1 : Int), (h.choose.2, s.2)) else (0, ([], true))
theorem rd1_yes {zs rest : List Int} {v : Nat} {b : Bool} (h : PackMath.Begins zs v rest) : rd1 (zs, b) = (IntKind.i64.wrap (v : Int), (rest, b)) := by
 have hex : ∃ x : Nat × List Int, PackMath.Begins (zs, b).1 x.1 x.2 := ⟨(v, rest), h⟩
 unfold rd1
 rw [dif_pos hex]
 obtain ⟨e1, e2⟩ := hex.choose_spec.unique h
 rw [e1, e2]
theorem rd1_no {zs : List Int} {b : Bool} (h : PackMath.Bare zs) : rd1 (zs, b) = (0, ([], true)) := by
 unfold rd1
 exact dif_neg fun ⟨x, hx⟩ => h x.1 x.2 hx.1 hx.2
noncomputable def rdS (s : List Int × Bool) : Nat → List Int × Bool
 | 0 => s
 | k + 1 => (rd1 (rdS s k)).2
noncomputable def rdX (s : List Int × Bool) (k : Nat) : Int := (rd1 (rdS s k)).1
theorem rdS_add (s : List Int × Bool) (a b : Nat) : rdS (rdS s a) b = rdS s (a + b) := by
 induction b with
 | zero => rfl
 | succ b ih => show (rd1 (rdS (rdS s a) b)).2 = (rd1 (rdS s (a + b))).2; rw [ih]
theorem rdX_add (s : List Int × Bool) (a b : Nat) : rdX (rdS s a) b = rdX s (a + b) := by unfold rdX; rw [rdS_add]
theorem rdS_len (s : List Int × Bool) (k : Nat) : (rdS s k).1.length ≤ s.1.length := by
 induction k with
 | zero => exact Nat.le_refl _
 | succ k ih =>
   show (rd1 (rdS s k)).2.1.length ≤ _
   obtain ⟨z, b, e⟩ : ∃ z b, rdS s k = (z, b) := ⟨_, _, rfl⟩
   rw [e] at ih ⊢
   rcases PackMath.begins_or z with ⟨v, rest, hb⟩ | hb
   · rw [rd1_yes hb]
     have h := congrArg List.length hb.2
     rw [List.length_append] at h
     have ih' : z.length ≤ s.1.length := ih
     show rest.length ≤ _
     omega
   · rw [rd1_no hb]; exact Nat.zero_le _
theorem u64n_wrap {v : Nat} (h : v < 18446744073709551616) : u64n (IntKind.i64.wrap (v : Int)) = v := by rw [IntKind.wrap_i64]; unfold u64n; omega
theorem wrap_of_u64n {v : Int} (h0 : 0 ≤ v) (h1 : v ≤ 1125899906842624) : IntKind.i64.wrap ((u64n v : Nat) : Int) = v := by rw [u64n_of h0 (by omega)]; exact IntWalk.i64_in _ (by omega)
theorem rd_back {zs : List Int} {b : Bool} (k : Nat) : (rdS (zs, b) k).2 = false → b = false ∧ zs = bytesN ((List.range k).map fun j => u64n (rdX (zs, b) j)) ++ (rdS (zs, b) k).1 := by
 induction k with
 | zero => intro h; exact ⟨h, rfl⟩
 | succ k ih =>
   intro h
   have e1 : rdS (zs, b) (k + 1) = (rd1 (rdS (zs, b) k)).2 := rfl
   rw [e1] at h ⊢
   obtain ⟨z, d, e⟩ : ∃ z d, rdS (zs, b) k = (z, d) := ⟨_, _, rfl⟩
   have e2 : rdX (zs, b) k = (rd1 (z, d)).1 := by unfold rdX; rw [e]
   rw [e] at h ⊢ ih
   rcases PackMath.begins_or z with ⟨v, rest, hb⟩ | hb
   · rw [rd1_yes hb] at h e2 ⊢
     obtain ⟨i1, i2⟩ := ih h
     refine ⟨i1, ?_⟩
     rw [List.range_succ, List.map_append, bytesN_append, List.map_cons, List.map_nil, bytesN_one, e2, u64n_wrap hb.1, List.append_assoc, ← hb.2]
     exact i2
   · rw [rd1_no hb] at h; cases h
theorem rd_forth (ns : List Nat) (hs : ∀ v ∈ ns, v < 18446744073709551616) (r : List Int) : rdS (bytesN ns ++ r, false) ns.length = (r, false) ∧ ∀ j, j < ns.length → rdX (bytesN ns ++ r, false) j = IntKind.i64.wrap ((ns[j]?.getD 0 : Nat) : Int) := by
 induction ns with
 | nil => exact ⟨by show (([] : List Int) ++ r, false) = _; rw [List.nil_append], fun j hj => absurd hj (by simp)⟩
 | cons v ns ih =>
   have hb : PackMath.Begins (bytesN (v :: ns) ++ r) v (bytesN ns ++ r) := ⟨hs v (by simp), by rw [bytesN_cons, List.append_assoc]⟩
   have e1 : rdS (bytesN (v :: ns) ++ r, false) 1 = (bytesN ns ++ r, false) := by show (rd1 _).2 = _; rw [show rdS (bytesN (v :: ns) ++ r, false) 0 = (bytesN (v :: ns) ++ r, false) from rfl, rd1_yes hb]
   obtain ⟨i1, i2⟩ := ih fun u hu => hs u (by simp [hu])
   refine ⟨?_, fun j hj => ?_⟩
   · rw [List.length_cons, Nat.add_comm, ← rdS_add, e1]; exact i1
   · match j, hj with
     | 0, _ =>
       show (rd1 (bytesN (v :: ns) ++ r, false)).1 = _
       rw [rd1_yes hb]; rfl
     | j + 1, hj =>
       rw [Nat.add_comm j 1, ← rdX_add, e1, i2 j (by simp at hj; omega), Nat.add_comm 1 j, List.getElem?_cons_succ]
noncomputable def rdB (c : Cf) (s : List Int × Bool) : List Rw × (List Int × Bool) := match takeB c s.1 with
 | some (l, rest) => (l, (rest, s.2))
 | none => ([], ([], true))
theorem rdB_yes {c : Cf} {zs rest : List Int} {b : Bool} {l : List Rw} (h : takeB c zs = some (l, rest)) : rdB c (zs, b) = (l, (rest, b)) := by unfold rdB; rw [show (zs, b).1 = zs from rfl, h]
theorem rdB_no {c : Cf} {zs : List Int} {b : Bool} (h : takeB c zs = none) : rdB c (zs, b) = ([], ([], true)) := by unfold rdB; rw [show (zs, b).1 = zs from rfl, h]
end Go.Proofs.YtnkgakhnlbifdaaGreat
