/- Law AuditMost, walked: where all told twice of the same books, an audit is sure, and tells their value. The law itself is stated in AuditCards. -/
import Derived.Test.YtgonboccklpoaaaMg39
import Derived.Test.YtgonboccklpoaaaAuditMostMath
import Derived.Test.YtgonboccklpoaaaMg40
import Derived.Test.YtgonboccklpoaaaRefRightsRight
import Derived.Test.YtgonboccklpoaaaMg47
import Derived.LoopTactic
namespace Go.Proofs.Ytgonboccklpoaaa
open Go.RowKit

/-- what the audit is ahead of the phase j -/
def stageA (tr : Int) (l : List Rw) (u j : Nat) : Au := if j = 3 then mostA tr l u 2 l.length else mostA tr l u (j : Int) 0
set_option maxRecDepth 100000 in
set_option maxHeartbeats 8000000 in
theorem auditmost_law (c : Cf) (who tr : Int) (a : Option Addr) (m cp : Nat) (l : List Rw) (hm : m = l.length) (w : World) (hB : Books w (.slice a m cp) l) (hR : Reach l) :
    Calls Try.prog 5 #[cfV c, .int .i64 who, .int .i64 tr, .slice a m cp] w (Says w true) := by
  have HW := Lib.hid (Whole.made w 23 (cfCells c))
  have Hb0 := Lib.hid (below_box w (.cells (cfCells c) 23))
  have HB := Lib.hid hB; clear hB
  have Hm := Lib.hid hm; clear hm
  obtain ⟨n, q, r, p, kk, cc⟩ := c
  go_enter Try.func5, Try.ntmps5
  go_wp2_with fail
  refine (awake15 _).mono ?_
  rintro e w1 ⟨rfl, hb⟩
  have Hb1 := Lib.hid (held_next Hb0.out hb)
  have HW1 := Lib.hid (HW.out.later hb HW.out.lt)
  clear hb
  go_wp2_with fail
  refine (refshort_calls a m cp l Hm.out hR _ (HB.out.later Hb1.out)).mono ?_
  clear hR
  rintro e w2 ⟨rfl, hb⟩
  have Hb2 := Lib.hid (held_next Hb1.out hb)
  have HW2 := Lib.hid (HW1.out.later hb HW1.out.lt)
  clear hb
  cases shortB l with
  | false =>
    go_wp2_with fail
    go_ret
    exact ⟨by rfl, Hb2.out⟩
  | true =>
  obtain ⟨d0, d1, d2, d3, d4, d5⟩ := config_cells HW2.out
  simp only at d0 d1 d2 d3 d4 d5
  obtain ⟨ok, Hok⟩ : ∃ z, Hid (rightB ⟨n, q, r, p, kk, cc⟩ l = z) := ⟨_, rfl⟩
  go_wp2_with fail
  refine (refright_calls ⟨n, q, r, p, kk, cc⟩ a m cp l Hm.out _ (HB.out.later Hb2.out)).mono ?_
  rintro e w3 ⟨rfl, hb⟩
  rw [Hok.out]
  have Hb3 := Lib.hid (held_next Hb2.out hb)
  have HW3 := Lib.hid (HW2.out.later hb HW2.out.lt)
  clear hb d0 d1 d2 d3 d4 d5
  cases ok with
  | false =>
    go_wp2_with fail
    go_ret
    exact ⟨by rfl, Hb3.out⟩
  | true =>
  obtain ⟨d0, d1, d2, d3, d4, d5⟩ := config_cells HW3.out
  simp only at d0 d1 d2 d3 d4 d5
  by_cases hw0 : who < 0
  · go_wp2_with fail
    go_ret
    exact ⟨by rfl, Hb3.out⟩
  by_cases hw1 : n ≤ who
  · go_wp2_with fail
    go_ret
    exact ⟨by rfl, Hb3.out⟩
  by_cases ht0 : tr < 1
  · go_wp2_with fail
    go_ret
    exact ⟨by rfl, Hb3.out⟩
  by_cases ht1 : 1125899906842624 < tr
  · go_wp2_with fail
    go_ret
    exact ⟨by rfl, Hb3.out⟩
  have hn : n = (m : Int) := by have := (rightB_ok Hok.out).2.1; have := Hm.out; simp only at *; omega
  subst hn
  have HR := Lib.hid (rightB_ok Hok.out)
  have HWho : Hid (0 ≤ who ∧ who < (m : Int)) := by show _ ∧ _; omega
  have HT : Hid (1 ≤ tr ∧ tr ≤ 1125899906842624) := by show _ ∧ _; omega
  have hm16 : m ≤ 16 := by have := HR.out.len; have := Hm.out; omega
  obtain ⟨u, Hu⟩ : ∃ u, Hid (who.toNat = u) := ⟨_, rfl⟩
  obtain ⟨v, Hv⟩ : ∃ z, Hid (valueV ⟨(m : Int), q, r, p, kk, cc⟩ l = z) := ⟨_, rfl⟩
  have hcall := fun w => aBeginO_calls ⟨(m : Int), q, r, p, kk, cc⟩ who tr w
  rw [most_begin ⟨HR.out.1, HWho.out, HT.out⟩ HR.out.2.1, Hu.out] at hcall
  obtain ⟨x0, Hx0⟩ : ∃ z, Hid (mostA tr l u 1 0 = z) := ⟨_, rfl⟩
  rw [Hx0.out] at hcall
  have Hcall := Lib.hid hcall
  clear hcall
  go_wp2_with fail
  refine (Hcall.out _).mono ?_
  rintro e w4 ⟨⟨a1, m1, c1, a2, m2, c2, a3, m3, c3⟩, rfl, hA, hb, hoff⟩
  have hbx := below_box w4 (.cells (auCells x0 (.slice a1 m1 c1) (.slice a2 m2 c2) (.slice a3 m3 c3)) 33)
  have Hb4 := Lib.hid (held_next Hb3.out hb)
  have HW4 := Lib.hid (HW3.out.later hb HW3.out.lt)
  have HI : Hid (BoxA w4 x0 ⟨a1, m1, c1, a2, m2, c2, a3, m3, c3⟩ (w4.alloc (.cells (auCells x0 (.slice a1 m1 c1) (.slice a2 m2 c2) (.slice a3 m3 c3)) 33))) := boxA_made hA (fun g hg => hoff g trivial (Or.inr hg))
  have HX0 : Hid (stageA tr l u 1 = x0) := by show stageA tr l u 1 = x0; rw [← Hx0.out]; rfl
  clear hb hbx hA hoff d0 d1 d2 d3 d4 d5 hw0 hw1 ht0 ht1
  have hlw4 := HW4.out.lt
  have hmk : ∀ w : World, (Instr.makeSlice 38 (.int .i64 (m : Int)) (.int .i64 (m : Int))).run Try.prog w = .ok (.slice (some ⟨w.heap.size, 0, none⟩) m m) (w.alloc (.cells (madeCells #[.int .i64 0, .int .i64 0] (m * 2)) 29)) := fun w => run_make_looks (by omega)
  go_wp2_with fail
  go_loopg [11] 3 (fun g s11 wr => ∃ (j : Nat) (x : Au) (p : Al), j + g = 4 ∧ 1 ≤ j ∧ j ≤ 3 ∧ s11 = .int .i64 (j : Int) ∧ Hid (stageA tr l u j = x) ∧ Hid (BoxA w4 x p wr))
  case atStart => exact ⟨1, x0, _, rfl, by omega, by omega, rfl, HX0.out, HI.out⟩
  case round =>
    obtain ⟨j, x, ⟨b1, k1, f1, b2, k2, f2, b3, k3, f3⟩, hj, hj1, hj3, rfl, Hst, HIo⟩ := hrel
    have HWo := Lib.hid (HW4.out.later HIo.out.1.2.2.2 hlw4)
    obtain ⟨d0, d1, d2, d3, d4, d5⟩ := config_cells HWo.out
    obtain ⟨e0, e1, e2, e3, e4, e5⟩ := au_cells HIo.out.1.1
    simp only at d0 d1 d2 d3 d4 d5 e0 e1 e2 e3 e4 e5
    by_cases hle : j ≤ 2
    · have k0 : (j : Int) ≤ 2 := by omega
      have hjj : ¬ j = 3 := by omega
      have Hx : Hid (mostA tr l u (j : Int) 0 = x) := by have := Hst.out; unfold stageA at this; rw [if_neg hjj] at this; exact this
      obtain ⟨wo, hwo⟩ : ∃ wo, wo = wr := ⟨_, rfl⟩
      subst hwo
      go_wp2_with fail
      clear d0 d1 d2 d3 d4 d5 e0 e1 e2 e3 e4 e5
      go_loopg [12] m (fun g s12 wr => ∃ (k : Nat) (y : Au) (p : Al), k + g = m ∧ s12 = .int .i64 (k : Int) ∧ Hid (mostA tr l u (j : Int) k = y) ∧ Hid (BoxA w4 y p wr))
      case atStart => exact ⟨0, x, _, by omega, rfl, Hx.out, HIo.out⟩
      case round =>
        obtain ⟨k, y, ⟨g1, i1, h1, g2, i2, h2, g3, i3, h3⟩, hk, rfl, Hy, HIr⟩ := hrel
        have HWr := Lib.hid (HW4.out.later HIr.out.1.2.2.2 hlw4)
        obtain ⟨d0, d1, d2, d3, d4, d5⟩ := config_cells HWr.out
        obtain ⟨e0, e1, e2, e3, e4, e5⟩ := au_cells HIr.out.1.1
        simp only at d0 d1 d2 d3 d4 d5 e0 e1 e2 e3 e4 e5
        by_cases hkm : k < m
        · have k1 : (k : Int) < (m : Int) := by omega
          by_cases hkw : (k : Int) = who
          · have hkw' : ((k : Int) == who) = true := beq_iff_eq.2 hkw
            have Hy2 : Hid (mostA tr l u (j : Int) (k + 1) = y) := by
              show _ = _
              have hu : u = k := by rw [← Hu.out]; omega
              rw [← Hy.out, hu, most_skip]
            have Hkw := Lib.hid hkw
            clear hkw
            go_wp2_with fail
            go_roundg (m - (k + 1))
            case measure => omega
            case rel => exact ⟨k + 1, y, _, by omega, by go_num, Hy2.out, HIr.out⟩
          · have hkw' : ((k : Int) == who) = false := beq_eq_false_iff_ne.2 hkw
            have Hkw : Hid (k ≠ u) := by show k ≠ u; rw [← Hu.out]; omega
            clear hkw
            have hwi := HWho.out
            obtain ⟨hwi0, hwi1⟩ := hwi
            have hlm : l.length = m := Hm.out.symm
            obtain ⟨ec, Hec⟩ : ∃ z, Hid ((List.replicate m ((0, 0) : Int × Int)).set who.toNat (tr, (j : Int)) = z) := ⟨_, rfl⟩
            have hM : (⟨(k : Int), who, 1, l, 0, 0, 0, 0, 0, 0, ec⟩ : Ml) = mostM tr l u (j : Int) k := by
              unfold mostM
              rw [← Hec.out, hlm, Hu.out]
              have : who = (u : Int) := by rw [← Hu.out]; omega
              rw [this]
            have hT : tellA ⟨(m : Int), q, r, p, kk, cc⟩ who y ⟨(k : Int), who, 1, l, 0, 0, 0, 0, 0, 0, ec⟩ = (mostA tr l u (j : Int) (k + 1), 0) := by
              rw [hM, ← Hy.out, ← Hu.out]
              exact most_tell HR.out HWho.out HT.out (by omega) (by omega) (by have := Hkw.out; rw [Hu.out]; exact this)
            obtain ⟨z, Hz⟩ : ∃ z, Hid (mostA tr l u (j : Int) (k + 1) = z) := ⟨_, rfl⟩
            rw [Hz.out] at hT
            have HTell := Lib.hid hT
            clear hT hM
            have HW2 := Lib.hid (Whole.made2 wr (.cells (madeCells #[.int .i64 0, .int .i64 0] (m * 2)) 29) 40 (mlCells ⟨(k : Int), who, 1, l, 0, 0, 0, 0, 0, 0, ec⟩ (.slice a m cp) (.slice (some ⟨wr.heap.size, 0, none⟩) m m)))
            have HE2 := Lib.hid ((Whole.made wr 29 (madeCells #[.int .i64 0, .int .i64 0] (m * 2))).alloc (.cells (mlCells ⟨(k : Int), who, 1, l, 0, 0, 0, 0, 0, 0, ec⟩ (.slice a m cp) (.slice (some ⟨wr.heap.size, 0, none⟩) m m)) 40))
            have Hb2' := Lib.hid (below_two wr (.cells (madeCells #[.int .i64 0, .int .i64 0] (m * 2)) 29) (.cells (mlCells ⟨(k : Int), who, 1, l, 0, 0, 0, 0, 0, 0, ec⟩ (.slice a m cp) (.slice (some ⟨wr.heap.size, 0, none⟩) m m)) 40))
            have q10 := (ml_cells' HW2.out).2.2.2.2
            have l0 := (HE2.out.cell (who.toNat * 2)).trans (made_look (by omega))
            have l1 := (HE2.out.cell (who.toNat * 2 + 1)).trans (made_look (by omega))
            have l2 := HE2.out.free (who.toNat * 2)
            have l3 := HE2.out.free (who.toNat * 2 + 1)
            have HEb := Lib.hid ((Whole.made wr 29 ((madeCells #[.int .i64 0, .int .i64 0] (m * 2)).setIfInBounds (who.toNat * 2) (.int .i64 tr))).alloc (.cells (mlCells ⟨(k : Int), who, 1, l, 0, 0, 0, 0, 0, 0, ec⟩ (.slice a m cp) (.slice (some ⟨wr.heap.size, 0, none⟩) m m)) 40))
            have l1b : ((wr.alloc (.cells ((madeCells #[.int .i64 0, .int .i64 0] (m * 2)).setIfInBounds (who.toNat * 2) (.int .i64 tr)) 29)).alloc (.cells (mlCells ⟨(k : Int), who, 1, l, 0, 0, 0, 0, 0, 0, ec⟩ (.slice a m cp) (.slice (some ⟨wr.heap.size, 0, none⟩) m m)) 40)).cell? ⟨wr.heap.size, who.toNat * 2 + 1, none⟩ = some (.int .i64 0) := by
              rw [HEb.out.cell, Array.getElem?_setIfInBounds, if_neg (by omega)]
              exact made_look (by omega)
            have l3b := HEb.out.free (who.toNat * 2 + 1)
            have HE3 := Lib.hid ((Whole.made wr 29 (((madeCells #[.int .i64 0, .int .i64 0] (m * 2)).setIfInBounds (who.toNat * 2) (.int .i64 tr)).setIfInBounds (who.toNat * 2 + 1) (.int .i64 (j : Int)))).alloc (.cells (mlCells ⟨(k : Int), who, 1, l, 0, 0, 0, 0, 0, 0, ec⟩ (.slice a m cp) (.slice (some ⟨wr.heap.size, 0, none⟩) m m)) 40))
            have HW3' := Lib.hid (Whole.made2 wr (.cells (((madeCells #[.int .i64 0, .int .i64 0] (m * 2)).setIfInBounds (who.toNat * 2) (.int .i64 tr)).setIfInBounds (who.toNat * 2 + 1) (.int .i64 (j : Int))) 29) 40 (mlCells ⟨(k : Int), who, 1, l, 0, 0, 0, 0, 0, 0, ec⟩ (.slice a m cp) (.slice (some ⟨wr.heap.size, 0, none⟩) m m)))
            have Hb3' := Lib.hid (below_two wr (.cells (((madeCells #[.int .i64 0, .int .i64 0] (m * 2)).setIfInBounds (who.toNat * 2) (.int .i64 tr)).setIfInBounds (who.toNat * 2 + 1) (.int .i64 (j : Int))) 29) (.cells (mlCells ⟨(k : Int), who, 1, l, 0, 0, 0, 0, 0, 0, ec⟩ (.slice a m cp) (.slice (some ⟨wr.heap.size, 0, none⟩) m m)) 40))
            have HWc := Lib.hid (HWr.out.later Hb3'.out HWr.out.lt)
            have HIc := Lib.hid (HIr.out.later Hb3'.out)
            obtain ⟨D0, D1, D2, D3, D4, D5⟩ := config_cells HWc.out
            obtain ⟨E0, E1, E2, E3, E4, E5⟩ := au_cells HIc.out.1.1
            obtain ⟨⟨M0, M1, M2, M3⟩, ⟨M4, M5, M6, M7⟩, M8, M9, M10⟩ := ml_cells' HW3'.out
            simp only at D0 D1 D2 D3 D4 D5 E0 E1 E2 E3 E4 E5 q10 M0 M1 M2 M3 M4 M5 M6 M7 M8 M9 M10
            go_wp2_with fail
            have hL3 := looks_set (t := tr) (p := (j : Int)) (show m ≤ 1000 by omega) (show who.toNat < m by omega) HE3.out
            rw [Hec.out] at hL3
            have hecl : m = ec.length := by rw [← Hec.out, List.length_set, List.length_replicate]
            have HM3 := Lib.hid (⟨Hm.out, HB.out.later (held_next Hb4.out (held_next HIr.out.1.2.2.2 Hb3'.out)), hecl, hL3⟩ : MailIn _ a m cp (some ⟨wr.heap.size, 0, none⟩) m m ⟨(k : Int), who, 1, l, 0, 0, 0, 0, 0, 0, ec⟩)
            have hlt9 := HIc.out.1.1.lt
            have Hlt9 := Lib.hid hlt9
            clear hL3 hecl hlt9
            refine (aTellO_calls ⟨(m : Int), q, r, p, kk, cc⟩ who y ⟨g1, i1, h1, g2, i2, h2, g3, i3, h3⟩ ⟨(k : Int), who, 1, l, 0, 0, 0, 0, 0, 0, ec⟩ a m cp (some ⟨wr.heap.size, 0, none⟩) m m _ HIc.out.1.2.1 HM3.out).mono ?_
            rw [HTell.out]
            rintro e w5 ⟨⟨s1, t1, v1, s2, t2, v2, s3, t3, v3⟩, rfl, hA, hb, hoff⟩
            have hbx := below_box w5 (.cells (auCells z (.slice s1 t1 v1) (.slice s2 t2 v2) (.slice s3 t3 v3)) 33)
            have hI5 := HIc.out.later hb
            have hoff9 := hoff _ HIc.out.1.2.2.1 (Or.inl Hlt9.out)
            have HI6 := Lib.hid (boxA_set (y := z) (p := ⟨s1, t1, v1, s2, t2, v2, s3, t3, v3⟩) hI5.1.1 hA hoff9 hI5.1.2.2.2 (fun g hg => hoff g (hI5.2 g hg) (Or.inr hg)))
            have HX5 := Lib.hid (Whole.made w5 33 (auCells z (.slice s1 t1 v1) (.slice s2 t2 v2) (.slice s3 t3 v3)))
            obtain ⟨F0, F1, F2, F3, F4, F5⟩ := au_cells HX5.out
            obtain ⟨G0, G1, G2, G3, G4, G5⟩ := au_cells hI5.1.1
            simp only at F0 F1 F2 F3 F4 F5 G0 G1 G2 G3 G4 G5
            have y0 := hI5.1.1.free 0
            have y1 := hI5.1.1.free 1
            have y2 := hI5.1.1.free 2
            have y3 := hI5.1.1.free 3
            have y4 := hI5.1.1.free 4
            have y5 := hI5.1.1.free 5
            have hlt5 : w4.heap.size < w5.heap.size := by have := Hlt9.out; have := hb.size; omega
            clear hb hbx hI5 hA hoff hoff9 D0 D1 D2 D3 D4 D5 E0 E1 E2 E3 E4 E5 M0 M1 M2 M3 M4 M5 M6 M7 M8 M9 M10 d0 d1 d2 d3 d4 d5 e0 e1 e2 e3 e4 e5 l0 l1 l2 l3 l1b l3b q10
            go_wp2_with fail
            go_roundg (m - (k + 1))
            case measure => omega
            case rel => exact ⟨k + 1, z, _, by omega, by go_num, Hz.out, HI6.out.later (below_box _ _)⟩
        · have hkm' : k = m := by omega
          have Hkm := Lib.hid hkm'; clear hkm'
          obtain ⟨y2, Hy2⟩ : ∃ z, Hid (stageA tr l u (j + 1) = z) := ⟨_, rfl⟩
          have hN : nextA ⟨(m : Int), q, r, p, kk, cc⟩ who y l = (y2, decide (j = 1)) := by
            have hlm : l.length = m := Hm.out.symm
            have hy := Hy.out
            rw [Hkm.out, ← hlm, ← Hu.out] at hy
            rw [← hy, ← Hy2.out]
            have hj12 : j = 1 ∨ j = 2 := by omega
            rcases hj12 with rfl | rfl
            · rw [show ((1 : Nat) : Int) = 1 from rfl, most_next HR.out HWho.out HT.out, ← Hu.out]; rfl
            · rw [show ((2 : Nat) : Int) = 2 from rfl, most_stop HR.out HWho.out HT.out, ← Hu.out]; rfl
          have hOk : auOk ⟨(m : Int), q, r, p, kk, cc⟩ who y2 := by
            rw [← Hy2.out, ← Hu.out]
            unfold stageA
            split
            · exact most_ok HR.out HWho.out HT.out (Or.inr rfl)
            · exact most_ok HR.out HWho.out HT.out (by omega)
          have HN := Lib.hid hN; have HOk := Lib.hid hOk
          clear hN hOk
          have hj12 : j = 1 ∨ j = 2 := by omega
          rcases hj12 with rfl | rfl
          · clear hj1 hj3 hle hjj
            rw [show decide ((1 : Nat) = 1) = true from rfl] at HN
            have e1' : (((1 : Nat) : Int) == 1) = true := rfl
            go_wp2_with fail
            refine (aNextO_calls ⟨(m : Int), q, r, p, kk, cc⟩ who y ⟨g1, i1, h1, g2, i2, h2, g3, i3, h3⟩ a m cp l Hm.out _ HIr.out.1.2.1 (HB.out.later (held_next Hb4.out HIr.out.1.2.2.2))).mono ?_
            rw [HN.out]
            rintro e w6 ⟨⟨s1, t1, v1, s2, t2, v2, s3, t3, v3⟩, rfl, hA, hb, hoff⟩
            have hbx := below_box w6 (.cells (auCells y2 (.slice s1 t1 v1) (.slice s2 t2 v2) (.slice s3 t3 v3)) 33)
            have HX6 := Lib.hid (Whole.made w6 33 (auCells y2 (.slice s1 t1 v1) (.slice s2 t2 v2) (.slice s3 t3 v3)))
            have HA6 := Lib.hid (hA.later hbx)
            have HI6 := Lib.hid (HIr.out.later (held_next hb hbx))
            have HW6 := Lib.hid (HWr.out.later (held_next hb hbx) HWr.out.lt)
            have hfar := fun g (hg : w6.heap.size ≤ g) => hoff g ((HIr.out.later hb).2 g hg) (Or.inr hg)
            have Hfar := Lib.hid hfar; clear hfar
            have Hoff := Lib.hid (hoff _ HIr.out.1.2.2.1 (Or.inl HIr.out.1.1.lt))
            clear hA hb hbx hoff d0 d1 d2 d3 d4 d5 e0 e1 e2 e3 e4 e5
            obtain ⟨d0, d1, d2, d3, d4, d5⟩ := config_cells HW6.out
            obtain ⟨e0, e1, e2, e3, e4, e5⟩ := au_cells HX6.out
            simp only at d0 d1 d2 d3 d4 d5 e0 e1 e2 e3 e4 e5
            go_wp2_with fail
            refine (refauditmay_calls ⟨(m : Int), q, r, p, kk, cc⟩ who y2 ⟨s1, t1, v1, s2, t2, v2, s3, t3, v3⟩ _ HA6.out).mono ?_
            rw [show auB ⟨(m : Int), q, r, p, kk, cc⟩ who y2 = true from decide_eq_true HOk.out]
            rintro e w7 ⟨rfl, hb⟩
            have hI7 := HI6.out.later hb
            have HX7 := Lib.hid (HX6.out.later hb HX6.out.lt)
            have HI8 := Lib.hid (boxA_set (y := y2) (p := ⟨s1, t1, v1, s2, t2, v2, s3, t3, v3⟩) hI7.1.1 (HA6.out.later hb) Hoff.out hI7.1.2.2.2 (fun g hg => Hfar.out g (Nat.le_trans (held_next (below_box w6 _) hb).size hg)))
            clear d0 d1 d2 d3 d4 d5 e0 e1 e2 e3 e4 e5
            obtain ⟨e0, e1, e2, e3, e4, e5⟩ := au_cells HX7.out
            obtain ⟨G0, G1, G2, G3, G4, G5⟩ := au_cells hI7.1.1
            simp only at e0 e1 e2 e3 e4 e5 G0 G1 G2 G3 G4 G5
            have z0 := hI7.1.1.free 0
            have z1 := hI7.1.1.free 1
            have z2 := hI7.1.1.free 2
            have z3 := hI7.1.1.free 3
            have z4 := hI7.1.1.free 4
            have z5 := hI7.1.1.free 5
            have hlt7 := hI7.1.1.lt
            clear hb hI7
            go_wp2_with fail
            go_roundg 2
            case measure => omega
            case rel => exact ⟨2, y2, _, by omega, by omega, by omega, by go_num, Hy2.out, HI8.out⟩
          · clear hj1 hj3 hle hjj
            rw [show decide ((2 : Nat) = 1) = false from rfl] at HN
            have e1' : (((2 : Nat) : Int) == 1) = false := rfl
            go_wp2_with fail
            refine (aNextO_calls ⟨(m : Int), q, r, p, kk, cc⟩ who y ⟨g1, i1, h1, g2, i2, h2, g3, i3, h3⟩ a m cp l Hm.out _ HIr.out.1.2.1 (HB.out.later (held_next Hb4.out HIr.out.1.2.2.2))).mono ?_
            rw [HN.out]
            rintro e w6 ⟨⟨s1, t1, v1, s2, t2, v2, s3, t3, v3⟩, rfl, hA, hb, hoff⟩
            have hbx := below_box w6 (.cells (auCells y2 (.slice s1 t1 v1) (.slice s2 t2 v2) (.slice s3 t3 v3)) 33)
            have HX6 := Lib.hid (Whole.made w6 33 (auCells y2 (.slice s1 t1 v1) (.slice s2 t2 v2) (.slice s3 t3 v3)))
            have HA6 := Lib.hid (hA.later hbx)
            have HI6 := Lib.hid (HIr.out.later (held_next hb hbx))
            have HW6 := Lib.hid (HWr.out.later (held_next hb hbx) HWr.out.lt)
            have hfar := fun g (hg : w6.heap.size ≤ g) => hoff g ((HIr.out.later hb).2 g hg) (Or.inr hg)
            have Hfar := Lib.hid hfar; clear hfar
            have Hoff := Lib.hid (hoff _ HIr.out.1.2.2.1 (Or.inl HIr.out.1.1.lt))
            clear hA hb hbx hoff d0 d1 d2 d3 d4 d5 e0 e1 e2 e3 e4 e5
            obtain ⟨d0, d1, d2, d3, d4, d5⟩ := config_cells HW6.out
            obtain ⟨e0, e1, e2, e3, e4, e5⟩ := au_cells HX6.out
            simp only at d0 d1 d2 d3 d4 d5 e0 e1 e2 e3 e4 e5
            go_wp2_with fail
            refine (refauditmay_calls ⟨(m : Int), q, r, p, kk, cc⟩ who y2 ⟨s1, t1, v1, s2, t2, v2, s3, t3, v3⟩ _ HA6.out).mono ?_
            rw [show auB ⟨(m : Int), q, r, p, kk, cc⟩ who y2 = true from decide_eq_true HOk.out]
            rintro e w7 ⟨rfl, hb⟩
            have hI7 := HI6.out.later hb
            have HX7 := Lib.hid (HX6.out.later hb HX6.out.lt)
            have HI8 := Lib.hid (boxA_set (y := y2) (p := ⟨s1, t1, v1, s2, t2, v2, s3, t3, v3⟩) hI7.1.1 (HA6.out.later hb) Hoff.out hI7.1.2.2.2 (fun g hg => Hfar.out g (Nat.le_trans (held_next (below_box w6 _) hb).size hg)))
            clear d0 d1 d2 d3 d4 d5 e0 e1 e2 e3 e4 e5
            obtain ⟨e0, e1, e2, e3, e4, e5⟩ := au_cells HX7.out
            obtain ⟨G0, G1, G2, G3, G4, G5⟩ := au_cells hI7.1.1
            simp only at e0 e1 e2 e3 e4 e5 G0 G1 G2 G3 G4 G5
            have z0 := hI7.1.1.free 0
            have z1 := hI7.1.1.free 1
            have z2 := hI7.1.1.free 2
            have z3 := hI7.1.1.free 3
            have z4 := hI7.1.1.free 4
            have z5 := hI7.1.1.free 5
            have hlt7 := hI7.1.1.lt
            clear hb hI7
            go_wp2_with fail
            go_roundg 1
            case measure => omega
            case rel => exact ⟨3, y2, _, by omega, by omega, by omega, by go_num, Hy2.out, HI8.out⟩
    · have hj4 : j = 3 := by omega
      subst hj4
      have hE : endsA ⟨(m : Int), q, r, p, kk, cc⟩ who x l = (v, true, true) := by
        rw [← Hst.out, ← Hu.out]
        unfold stageA
        rw [if_pos rfl, most_ends HR.out HWho.out HT.out, Hv.out]
      have HE := Lib.hid hE
      clear hE hj hj1 hj3 hle
      go_wp2_with fail
      refine (aEnds_calls ⟨(m : Int), q, r, p, kk, cc⟩ who x ⟨b1, k1, f1, b2, k2, f2, b3, k3, f3⟩ a m cp l Hm.out _ HIo.out.1.2.1 (HB.out.later (held_next Hb4.out HIo.out.1.2.2.2))).mono ?_
      rw [HE.out]
      rintro e w6 ⟨rfl, hb⟩
      have HW6 := Lib.hid (HWo.out.later hb HWo.out.lt)
      have Hb6 := Lib.hid (held_next (held_next Hb4.out HIo.out.1.2.2.2) hb)
      clear hb d0 d1 d2 d3 d4 d5 e0 e1 e2 e3 e4 e5
      obtain ⟨d0, d1, d2, d3, d4, d5⟩ := config_cells HW6.out
      simp only at d0 d1 d2 d3 d4 d5
      go_wp2_with fail
      refine (refvalue_calls ⟨(m : Int), q, r, p, kk, cc⟩ a m cp l Hm.out _ (HB.out.later Hb6.out)).mono ?_
      rw [Hv.out]
      rintro e w7 ⟨rfl, hb⟩
      have Hb7 := Lib.hid (held_next Hb6.out hb)
      clear hb
      go_wp2_with fail
      go_ret
      exact ⟨by rfl, Hb7.out⟩
end Go.Proofs.Ytgonboccklpoaaa
