/- Law AuditRuns, walked: an audit, begun, and told by any messages, may always be; it is told of each once; all told, it goes on; it ends just if all told twice. The law itself is stated in AuditCards. -/
import Derived.Test.YtgonboccklpoaaaMg40
import Derived.Test.YtgonboccklpoaaaAuditRunsMath
import Derived.Test.YtgonboccklpoaaaRefRightsRight
import Derived.LoopTactic
import Derived.Test.YtgonboccklpoaaaEach
namespace Go.Proofs.Ytgonboccklpoaaa
open Go.RowKit

theorem run_neq_look (w : World) (a b : Int) : (binOp .neq 29 (.agg #[.int .i64 a, .int .i64 b]) (.agg #[.int .i64 a, .int .i64 b])).run Try.prog w = .ok (.bool false) w := by
  simp [go_sem, Try.underlying29]
theorem au_zero {w : World} {g : Nat} (h : Whole w g 33 #[.int .i64 0, .int .i64 0, .slice none 0 0, .slice none 0 0, .slice none 0 0, .bool false]) :
    w.cell? ⟨g, 0, none⟩ = some (.int .i64 0) ∧ w.cell? ⟨g, 1, none⟩ = some (.int .i64 0) ∧ w.cell? ⟨g, 2, none⟩ = some (.slice none 0 0) ∧ w.cell? ⟨g, 3, none⟩ = some (.slice none 0 0) ∧ w.cell? ⟨g, 4, none⟩ = some (.slice none 0 0) ∧ w.cell? ⟨g, 5, none⟩ = some (.bool false) :=
  ⟨h.cell 0, h.cell 1, h.cell 2, h.cell 3, h.cell 4, h.cell 5⟩
set_option maxRecDepth 100000 in
set_option maxHeartbeats 8000000 in
theorem auditruns_law (c : Cf) (who tr : Int) (a : Option Addr) (m cp : Nat) (l : List Rw) (a0 : Option Addr) (m0 cq : Nat) (ml : List Mx) (hm : m = l.length) (hm0 : m0 = ml.length) (w : World) (hB : Books w (.slice a m cp) l) (hR : Reach l) (hQ : Mails w (.slice a0 m0 cq) ml) (hRM : ReachM ml) :
    Calls Try.prog 3 #[cfV c, .int .i64 who, .int .i64 tr, .slice a m cp, .slice a0 m0 cq] w (Says w true) := by
  have hbig : m0 ≤ 9223372036854775807 := by rw [hm0]; exact hQ.big
  have HW := Lib.hid (Whole.made w 23 (cfCells c))
  have Hb0 := Lib.hid (below_box w (.cells (cfCells c) 23))
  have HB := Lib.hid hB; clear hB
  have HQ := Lib.hid hQ; clear hQ
  have HRM := Lib.hid hRM; clear hRM
  have HR := Lib.hid hR; clear hR
  have Hm := Lib.hid hm; clear hm
  have Hm0 := Lib.hid hm0; clear hm0
  obtain ⟨n, q, r, p, kk, cc⟩ := c
  go_enter Try.func3, Try.ntmps3
  go_wp2_with fail
  refine (awake15 _).mono ?_
  rintro e w1 ⟨rfl, hb⟩
  have Hb1 := Lib.hid (held_next Hb0.out hb)
  have HW1 := Lib.hid (HW.out.later hb HW.out.lt)
  clear hb
  go_wp2_with fail
  go_loopw [11, 12] (fun s11 s12 wr => ∃ (i nn : Nat), i ≤ m0 ∧ s12 = .int .i64 (i : Int) ∧ s11 = .int .i64 (nn : Int) ∧ nn ≤ 9223372036854775807 ∧ Hid (Below w1.heap.size w1 wr)) (fun _ s12 _ => m0 - (intOf s12).toNat)
  case atStart => exact ⟨0, m0, Nat.zero_le _, rfl, rfl, hbig, Below.refl _ _⟩
  case round =>
    obtain ⟨i, nn, hi, rfl, rfl, hnn, Hb⟩ := hrel
    by_cases hlt : i < m0
    · have k1 : (i : Int) < (m0 : Int) := by omega
      by_cases h40 : nn ≤ 40
      · have k2 : (nn : Int) ≤ 40 := by omega
        obtain ⟨b, off, rfl, hat⟩ := (HQ.out.later (held_next Hb1.out Hb.out)).at (i := i) (by have := Hm0.out; omega)
        obtain ⟨mx, Hmx⟩ : ∃ z, Hid (mxAt ml i = z) := ⟨_, rfl⟩
        have hMi := (HQ.out.later (held_next Hb1.out Hb.out)).2 i (by have := Hm0.out; omega)
        have hRi := HRM.out i (by have := Hm0.out; omega)
        rw [Hmx.out] at hat hMi hRi
        obtain ⟨⟨fr, tg, clk, rows, t, ai, v, asks, try_, ph, echo⟩, a1, m1, c1, a2, m2, c2⟩ := mx
        obtain ⟨⟨M0, M1, M2, M3⟩, ⟨M4, M5, M6, M7⟩, M8, M9, M10⟩ := hat
        simp only at M0 M1 M2 M3 M4 M5 M6 M7 M8 M9 M10
        have k0 : (0 : Int) ≤ (i : Int) := by omega
        have Hcall := Lib.hid (light15 a m cp l Hm.out HR.out ⟨fr, tg, clk, rows, t, ai, v, asks, try_, ph, echo⟩ a1 m1 c1 a2 m2 c2 hRi wr (HB.out.later (held_next Hb1.out Hb.out)) hMi)
        clear hMi hRi
        go_wp2_with fail
        refine Hcall.out.mono ?_
        rintro e w2 ⟨bb, rfl, hb⟩
        have Hb2 := Lib.hid (held_next Hb.out hb)
        clear hb M0 M1 M2 M3 M4 M5 M6 M7 M8 M9 M10
        cases bb with
        | false =>
          go_wp2_with fail
          go_roundw
          case rel => exact ⟨i + 1, 99, by omega, by go_num, rfl, by decide, Hb2.out⟩
          case measure => simp [intOf]; omega
        | true =>
          go_wp2_with fail
          go_roundw
          case rel => exact ⟨i + 1, nn, by omega, by go_num, rfl, hnn, Hb2.out⟩
          case measure => simp [intOf]; omega
      · have k2 : ¬ (nn : Int) ≤ 40 := by omega
        go_wp2_with fail
        go_ret
        exact ⟨by rfl, held_next Hb1.out Hb.out⟩
    · by_cases h40 : nn ≤ 40
      rotate_left 1
      · have k2 : (40 : Int) < (nn : Int) := by omega
        go_wp2_with fail
        go_ret
        exact ⟨by rfl, held_next Hb1.out Hb.out⟩
      have k2 : ¬ (40 : Int) < (nn : Int) := by omega
      have Hbr := Lib.hid (held_next Hb1.out Hb.out)
      have HWr := Lib.hid (HW1.out.later Hb.out HW1.out.lt)
      clear Hb
      obtain ⟨sh, Hsh⟩ : ∃ z, Hid (shortB l = z) := ⟨_, rfl⟩
      have Hcall := Lib.hid (refshort_calls a m cp l Hm.out HR.out wr (HB.out.later Hbr.out))
      go_wp2_with fail
      refine Hcall.out.mono ?_
      rw [Hsh.out]
      rintro e w2 ⟨rfl, hb⟩
      have Hb2 := Lib.hid (held_next Hbr.out hb)
      have HW2 := Lib.hid (HWr.out.later hb HWr.out.lt)
      clear hb Hcall
      cases sh with
      | false =>
        go_wp2_with fail
        go_ret
        exact ⟨by rfl, Hb2.out⟩
      | true =>
      obtain ⟨d0, d1, d2, d3, d4, d5⟩ := config_cells HW2.out
      simp only at d0 d1 d2 d3 d4 d5
      obtain ⟨ok, Hok⟩ : ∃ z, Hid (rightB ⟨n, q, r, p, kk, cc⟩ l = z) := ⟨_, rfl⟩
      go_wp2_with fail
      refine (refright_calls ⟨n, q, r, p, kk, cc⟩ a m cp l Hm.out _ (HB.out.later Hb2.out)).mono ?_
      rintro e w3 ⟨rfl, hb⟩
      rw [Hok.out]
      have Hb3 := Lib.hid (held_next Hb2.out hb)
      have HW3 := Lib.hid (HW2.out.later hb HW2.out.lt)
      clear hb d0 d1 d2 d3 d4 d5
      cases ok with
      | false =>
        go_wp2_with fail
        go_ret
        exact ⟨by rfl, Hb3.out⟩
      | true =>
      obtain ⟨d0, d1, d2, d3, d4, d5⟩ := config_cells HW3.out
      simp only at d0 d1 d2 d3 d4 d5
      have hn : n = (m : Int) := by have := (rightB_ok Hok.out).2.1; have := Hm.out; simp only at *; omega
      subst hn
      have HRt := Lib.hid (rightB_ok Hok.out)
      have hm16 : m ≤ 16 := by have := HRt.out.len; have := Hm.out; omega
      have hcall := fun w => aBeginO_calls ⟨(m : Int), q, r, p, kk, cc⟩ who tr w
      rcases run_begin (c := ⟨(m : Int), q, r, p, kk, cc⟩) (who := who) (tr := tr) with hbeg | ⟨⟨hc, hw⟩, x0, hbeg, hrun, hcnt⟩
      · rw [hbeg] at hcall
        have Hcall := Lib.hid hcall
        clear hcall hbeg
        go_wp2_with fail
        refine (Hcall.out _).mono ?_
        rintro e w4 ⟨⟨a1, m1, c1, a2, m2, c2, a3, m3, c3⟩, rfl, hA, hb, _⟩
        have Hb4 := Lib.hid (held_next (held_next Hb3.out hb) (below_box w4 (.cells (auCells au0 (.slice a1 m1 c1) (.slice a2 m2 c2) (.slice a3 m3 c3)) 33)))
        have HX4 := Lib.hid (Whole.made w4 33 (auCells au0 (.slice a1 m1 c1) (.slice a2 m2 c2) (.slice a3 m3 c3)))
        obtain ⟨e0, e1, e2, e3, e4, e5⟩ := au_cells HX4.out
        simp only at e0 e1 e2 e3 e4 e5
        have hA1 := hA.1.1
        have hA2 := hA.2.1.1
        have hA3 := hA.2.2.1
        simp only [List.length_nil] at hA1 hA2 hA3
        subst hA1 hA2 hA3
        clear hb hA
        go_wp2_with fail
        refine (refnone_calls au0 ⟨a1, 0, c1, a2, 0, c2, a3, 0, c3⟩ _ rfl rfl rfl ⟨Nat.zero_le _, Nat.zero_le _, Nat.zero_le _⟩).mono ?_
        rintro e w5 ⟨rfl, hb⟩
        have Hb5 := Lib.hid (held_next Hb4.out hb)
        clear hb
        go_wp2_with fail
        go_ret
        exact ⟨by rfl, Hb5.out⟩
      rw [hbeg] at hcall
      have Hcall := Lib.hid hcall
      have HCf := Lib.hid hc
      have HWho := Lib.hid hw
      have Hrun := Lib.hid hrun
      have hcnt' : cntB x0.told m = 0 := hcnt
      have Hcnt := Lib.hid hcnt'
      clear hcall hbeg hc hw hrun hcnt hcnt'
      go_wp2_with fail
      refine (Hcall.out _).mono ?_
      rintro e w4 ⟨⟨a1, m1, c1, a2, m2, c2, a3, m3, c3⟩, rfl, hA, hb, hoff⟩
      have Hb4 := Lib.hid (held_next Hb3.out hb)
      have HW4 := Lib.hid (HW3.out.later hb HW3.out.lt)
      have HI : Hid (BoxA w4 x0 ⟨a1, m1, c1, a2, m2, c2, a3, m3, c3⟩ (w4.alloc (.cells (auCells x0 (.slice a1 m1 c1) (.slice a2 m2 c2) (.slice a3 m3 c3)) 33))) := boxA_made hA (fun g hg => hoff g trivial (Or.inr hg))
      clear hb hA hoff d0 d1 d2 d3 d4 d5 Hcall
      have hlw4 := HW4.out.lt
      go_wp2_with fail
      go_loopw [15, 16, 17] (fun s15 s16 s17 wr => ∃ (ix T : Nat) (ph : Int) (x : Au) (al : Al), ix ≤ m0 ∧ s17 = .int .i64 (ix : Int) ∧ s15 = .int .i64 (T : Int) ∧ s16 = .int .i64 ph ∧ Hid (RunA ⟨(m : Int), q, r, p, kk, cc⟩ who x tr ph) ∧ Hid (cntB x.told m = T) ∧ Hid (BoxA w4 x al wr)) (fun _ _ s17 _ => m0 - (intOf s17).toNat)
      case atStart => exact ⟨0, 0, 1, x0, _, Nat.zero_le _, rfl, rfl, rfl, Hrun.out, Hcnt.out, HI.out⟩
      case round =>
        obtain ⟨ix, T, ph, x, ⟨b1, k1, f1, b2, k2, f2, b3, k3, f3⟩, hi, rfl, rfl, rfl, Hx, HT, HIo⟩ := hrel
        have HWo := Lib.hid (HW4.out.later HIo.out.1.2.2.2 hlw4)
        by_cases hlt : ix < m0
        rotate_left 1
        · go_wp2_with fail
          go_ret
          exact ⟨by rfl, held_next Hb4.out HIo.out.1.2.2.2⟩
        have l1 : (ix : Int) < (m0 : Int) := by omega
        have l0 : (0 : Int) ≤ (ix : Int) := by omega
        have hbq := held_next Hb4.out HIo.out.1.2.2.2
        obtain ⟨b, off, rfl, hat⟩ := (HQ.out.later hbq).at (i := ix) (by have := Hm0.out; omega)
        obtain ⟨mx, Hmx⟩ : ∃ z, Hid (mxAt ml ix = z) := ⟨_, rfl⟩
        have hMi := (HQ.out.later hbq).2 ix (by have := Hm0.out; omega)
        rw [Hmx.out] at hat hMi
        obtain ⟨⟨fr, tg, clk, rows, t, ai, v, asks, try_, ph', echo⟩, g1, i1, j1, g2, i2, j2⟩ := mx
        have HMi := Lib.hid hMi
        have Hat := Lib.hid hat
        clear hMi hat hbq
        obtain ⟨ya, Hya⟩ : ∃ z, Hid (tellA ⟨(m : Int), q, r, p, kk, cc⟩ who x ⟨fr, tg, clk, rows, t, ai, v, asks, try_, ph', echo⟩ = z) := ⟨_, rfl⟩
        obtain ⟨y, code⟩ := ya
        have OM : Hid (∀ w', Below wr.heap.size wr w' → Calls Try.prog 12 #[cfV ⟨(m : Int), q, r, p, kk, cc⟩, .int .i64 who, auAt x ⟨b1, k1, f1, b2, k2, f2, b3, k3, f3⟩, mlV ⟨fr, tg, clk, rows, t, ai, v, asks, try_, ph', echo⟩ (.slice g1 i1 j1) (.slice g2 i2 j2)] w' (GaveAO w' (fun g => OffAl g ⟨b1, k1, f1, b2, k2, f2, b3, k3, f3⟩) (y, code))) := by
          rw [← Hya.out]
          exact fun w' h => aTellO_calls ⟨(m : Int), q, r, p, kk, cc⟩ who x ⟨b1, k1, f1, b2, k2, f2, b3, k3, f3⟩ ⟨fr, tg, clk, rows, t, ai, v, asks, try_, ph', echo⟩ g1 i1 j1 g2 i2 j2 w' (HIo.out.1.2.1.later h) (HMi.out.later (by exact h))
        go_wp2_with fail
        go_cut [18, 19] from 79 to 89 (fun s18 s19 wx => ∃ (g9 : Nat) (yl : Al), s18 = .pointer (some ⟨g9, 0, none⟩) ∧ s19 = .int .i64 code ∧ Hid (Below wr.heap.size wr wx) ∧ Hid (Whole wx g9 33 (auCells y (.slice yl.a1 yl.m1 yl.c1) (.slice yl.a2 yl.m2 yl.c2) (.slice yl.a3 yl.m3 yl.c3))) ∧ Hid (AuIn wx yl y) ∧ Hid (OffAl w4.heap.size yl) ∧ Hid (∀ g, wx.heap.size ≤ g → OffAl g yl) ∧ Hid (wr.heap.size ≤ g9))
        case first =>
          refine wp_region_each_at ?hm ?hb (fun a0 d a' w' => ∃ (e0 e1 e2 e3 e4 e5 e6 e7 e8 e9 e10 e11 e13 : Value) (yl : Al) (gb : Nat), a' = putAll a0 [(80, e0), (81, e1), (82, e2), (83, e3), (84, e4), (85, e5), (86, e6), (87, e7), (79, e8), (88, e9), (89, e10), (18, e11), (19, e13)] ∧ Below wr.heap.size wr w' ∧ (d 0 = true → e0 = (cfV ⟨(m : Int), q, r, p, kk, cc⟩)) ∧ (d 1 = true → e1 = (.int .i64 who)) ∧ (d 2 = true → e2 = (auAt x ⟨b1, k1, f1, b2, k2, f2, b3, k3, f3⟩)) ∧ (d 3 = true → e3 = (.slice (some ⟨b, off, none⟩) m0 cq)) ∧ (d 4 = true → e4 = (.int .i64 (ix : Int))) ∧ (d 5 = true → e5 = (.pointer (some ⟨b, off + ix * 11, none⟩))) ∧ (d 6 = true → e6 = (mlV ⟨fr, tg, clk, rows, t, ai, v, asks, try_, ph', echo⟩ (.slice g1 i1 j1) (.slice g2 i2 j2))) ∧ (d 7 = true → e7 = .tuple #[auAt y yl, .int .i64 code] ∧ (AuIn w' yl y ∧ OffAl w4.heap.size yl ∧ ∀ g, w'.heap.size ≤ g → OffAl g yl)) ∧ (d 8 = true → d 7 = true ∧ e8 = .tuple #[auAt y yl, .int .i64 code]) ∧ (d 9 = true → d 7 = true ∧ e9 = auAt y yl) ∧ (d 10 = true → d 7 = true ∧ e10 = .int .i64 code) ∧ (d 11 = true → e11 = .pointer (some ⟨gb, 0, none⟩) ∧ wr.heap.size ≤ gb ∧ gb < w'.heap.size ∧ (d 12 = false → Whole w' gb 33 #[.int .i64 0, .int .i64 0, .slice none 0 0, .slice none 0 0, .slice none 0 0, .bool false])) ∧ (d 12 = true → d 7 = true ∧ d 11 = true ∧ Whole w' gb 33 (auCells y (.slice yl.a1 yl.m1 yl.c1) (.slice yl.a2 yl.m2 yl.c2) (.slice yl.a3 yl.m3 yl.c3))) ∧ (d 13 = true → e13 = .int .i64 code) ∧ (d 7 = true → d 11 = true → OffAl gb yl)) ?h0 ?step ?ends
          case hm => kernel_rfl
          case hb => kernel_rfl
          case h0 =>
            refine ⟨u80, u81, u82, u83, u84, u85, u86, u87, u79, u88, u89, u18, u19, ⟨none, 0, 0, none, 0, 0, none, 0, 0⟩, 0, ?_, (Below.refl _ _).drew, fun h => absurd h (by decide), fun h => absurd h (by decide), fun h => absurd h (by decide), fun h => absurd h (by decide), fun h => absurd h (by decide), fun h => absurd h (by decide), fun h => absurd h (by decide), fun h => absurd h (by decide), fun h => absurd h (by decide), fun h => absurd h (by decide), fun h => absurd h (by decide), fun h => absurd h (by decide), fun h => absurd h (by decide), fun h => absurd h (by decide), fun h => absurd h (by decide)⟩
            simp only [putAll, Act.put, List.setIfInBounds_toArray, List.set_cons_zero, List.set_cons_succ]
          case step =>
            intro i d a' w' hi hJ hd hk
            obtain ⟨e0, e1, e2, e3, e4, e5, e6, e7, e8, e9, e10, e11, e13, yl, gb, rfl, hB, c0, c1, c2, c3, c4, c5, c6, c7, c8, c9, c10, c11, c12, c13, cx⟩ := hJ
            match i, hi, hd, hk with
            | 0, _, hd, hk =>
              obtain ⟨z0, z1, z2, z3, z4, z5⟩ := config_cells (HWo.out.later hB HWo.out.lt)
              simp only at z0 z1 z2 z3 z4 z5
              apply wpOp_at
              case ho => rfl
              intro K hK
              simp only [putAll, Act.put, List.setIfInBounds_toArray, List.set_cons_zero, List.set_cons_succ]
              go_simp
              refine hK _ _ ⟨(cfV ⟨(m : Int), q, r, p, kk, cc⟩), e1, e2, e3, e4, e5, e6, e7, e8, e9, e10, e11, e13, yl, gb, ?_, hB, fun _ => rfl, c1, c2, c3, c4, c5, c6, c7, c8, c9, c10, c11, c12, c13, cx⟩
              simp only [putAll, Act.put, List.setIfInBounds_toArray, List.set_cons_zero, List.set_cons_succ]
              all_goals rfl
            | 1, _, hd, hk =>
              apply wpOp_at
              case ho => rfl
              intro K hK
              simp only [putAll, Act.put, List.setIfInBounds_toArray, List.set_cons_zero, List.set_cons_succ]
              go_simp
              refine hK _ _ ⟨e0, (.int .i64 who), e2, e3, e4, e5, e6, e7, e8, e9, e10, e11, e13, yl, gb, ?_, hB, c0, fun _ => rfl, c2, c3, c4, c5, c6, c7, c8, c9, c10, c11, c12, c13, cx⟩
              simp only [putAll, Act.put, List.setIfInBounds_toArray, List.set_cons_zero, List.set_cons_succ]
              all_goals rfl
            | 2, _, hd, hk =>
              obtain ⟨z0, z1, z2, z3, z4, z5⟩ := au_cells (HIo.out.1.1.later hB HIo.out.1.1.lt)
              simp only at z0 z1 z2 z3 z4 z5
              apply wpOp_at
              case ho => rfl
              intro K hK
              simp only [putAll, Act.put, List.setIfInBounds_toArray, List.set_cons_zero, List.set_cons_succ]
              go_simp
              refine hK _ _ ⟨e0, e1, (auAt x ⟨b1, k1, f1, b2, k2, f2, b3, k3, f3⟩), e3, e4, e5, e6, e7, e8, e9, e10, e11, e13, yl, gb, ?_, hB, c0, c1, fun _ => rfl, c3, c4, c5, c6, c7, c8, c9, c10, c11, c12, c13, cx⟩
              simp only [putAll, Act.put, List.setIfInBounds_toArray, List.set_cons_zero, List.set_cons_succ]
              all_goals rfl
            | 3, _, hd, hk =>
              apply wpOp_at
              case ho => rfl
              intro K hK
              simp only [putAll, Act.put, List.setIfInBounds_toArray, List.set_cons_zero, List.set_cons_succ]
              go_simp
              refine hK _ _ ⟨e0, e1, e2, (.slice (some ⟨b, off, none⟩) m0 cq), e4, e5, e6, e7, e8, e9, e10, e11, e13, yl, gb, ?_, hB, c0, c1, c2, fun _ => rfl, c4, c5, c6, c7, c8, c9, c10, c11, c12, c13, cx⟩
              simp only [putAll, Act.put, List.setIfInBounds_toArray, List.set_cons_zero, List.set_cons_succ]
              all_goals rfl
            | 4, _, hd, hk =>
              apply wpOp_at
              case ho => rfl
              intro K hK
              simp only [putAll, Act.put, List.setIfInBounds_toArray, List.set_cons_zero, List.set_cons_succ]
              go_simp
              refine hK _ _ ⟨e0, e1, e2, e3, (.int .i64 (ix : Int)), e5, e6, e7, e8, e9, e10, e11, e13, yl, gb, ?_, hB, c0, c1, c2, c3, fun _ => rfl, c5, c6, c7, c8, c9, c10, c11, c12, c13, cx⟩
              simp only [putAll, Act.put, List.setIfInBounds_toArray, List.set_cons_zero, List.set_cons_succ]
              all_goals rfl
            | 5, _, hd, hk =>
              have h3 : d 3 = true := hk 3 (by decide +kernel)
              have h4 : d 4 = true := hk 4 (by decide +kernel)
              obtain rfl := c3 h3
              obtain rfl := c4 h4
              apply wpOp_at
              case ho => rfl
              intro K hK
              simp only [putAll, Act.put, List.setIfInBounds_toArray, List.set_cons_zero, List.set_cons_succ]
              go_simp
              refine hK _ _ ⟨e0, e1, e2, (.slice (some ⟨b, off, none⟩) m0 cq), (.int .i64 (ix : Int)), (.pointer (some ⟨b, off + ix * 11, none⟩)), e6, e7, e8, e9, e10, e11, e13, yl, gb, ?_, hB, c0, c1, c2, c3, c4, fun _ => rfl, c6, c7, c8, c9, c10, c11, c12, c13, cx⟩
              simp only [putAll, Act.put, List.setIfInBounds_toArray, List.set_cons_zero, List.set_cons_succ]
              all_goals rfl
            | 6, _, hd, hk =>
              have h5 : d 5 = true := hk 5 (by decide +kernel)
              obtain rfl := c5 h5
              obtain ⟨⟨z0, z1, z2, z3⟩, ⟨z4, z5, z6, z7⟩, z8, z9, z10⟩ := Hat.out.later hB
              simp only at z0 z1 z2 z3 z4 z5 z6 z7 z8 z9 z10
              apply wpOp_at
              case ho => rfl
              intro K hK
              simp only [putAll, Act.put, List.setIfInBounds_toArray, List.set_cons_zero, List.set_cons_succ]
              go_simp
              refine hK _ _ ⟨e0, e1, e2, e3, e4, (.pointer (some ⟨b, off + ix * 11, none⟩)), (mlV ⟨fr, tg, clk, rows, t, ai, v, asks, try_, ph', echo⟩ (.slice g1 i1 j1) (.slice g2 i2 j2)), e7, e8, e9, e10, e11, e13, yl, gb, ?_, hB, c0, c1, c2, c3, c4, c5, fun _ => rfl, c7, c8, c9, c10, c11, c12, c13, cx⟩
              simp only [putAll, Act.put, List.setIfInBounds_toArray, List.set_cons_zero, List.set_cons_succ]
              all_goals rfl
            | 7, _, hd, hk =>
              have h0 : d 0 = true := hk 0 (by decide +kernel)
              have h1 : d 1 = true := hk 1 (by decide +kernel)
              have h2 : d 2 = true := hk 2 (by decide +kernel)
              have h6 : d 6 = true := hk 6 (by decide +kernel)
              obtain rfl := c0 h0
              obtain rfl := c1 h1
              obtain rfl := c2 h2
              obtain rfl := c6 h6
              apply wpOp_at
              case ho => rfl
              intro K hK
              simp only [putAll, Act.put, List.setIfInBounds_toArray, List.set_cons_zero, List.set_cons_succ]
              go_simp
              refine (OM.out _ hB).mono ?_
              rintro e w'' ⟨yl, rfl, hA, hb, hoff⟩
              refine hK _ _ ⟨(cfV ⟨(m : Int), q, r, p, kk, cc⟩), (.int .i64 who), (auAt x ⟨b1, k1, f1, b2, k2, f2, b3, k3, f3⟩), e3, e4, e5, (mlV ⟨fr, tg, clk, rows, t, ai, v, asks, try_, ph', echo⟩ (.slice g1 i1 j1) (.slice g2 i2 j2)), .tuple #[auAt y yl, .int .i64 code], e8, e9, e10, e11, e13, yl, gb, ?_, hB.trans (hb.mono hB.size), c0, c1, c2, c3, c4, c5, c6, fun _ => ⟨rfl, hA, hoff _ HIo.out.1.2.2.1 (Or.inl (Nat.lt_of_lt_of_le HIo.out.1.1.lt hB.size)), fun g hg => hoff g (HIo.out.2 g (Nat.le_trans (held_next hB hb).size hg)) (Or.inr hg)⟩, fun h => Bool.noConfusion (hd.symm.trans (c8 h).1), fun h => Bool.noConfusion (hd.symm.trans (c9 h).1), fun h => Bool.noConfusion (hd.symm.trans (c10 h).1), fun h => ⟨(c11 h).1, (c11 h).2.1, Nat.lt_of_lt_of_le (c11 h).2.2.1 hb.size, fun h2 => ((c11 h).2.2.2 h2).later hb (c11 h).2.2.1⟩, fun h => Bool.noConfusion (hd.symm.trans (c12 h).1), c13, fun _ h11 => hoff gb (HIo.out.2 gb (c11 h11).2.1) (Or.inl (c11 h11).2.2.1)⟩
              simp only [putAll, Act.put, List.setIfInBounds_toArray, List.set_cons_zero, List.set_cons_succ]
              all_goals rfl
            | 8, _, hd, hk =>
              have h7 : d 7 = true := hk 7 (by decide +kernel)
              obtain ⟨rfl, hp⟩ := c7 h7
              apply wpOp_at
              case ho => rfl
              intro K hK
              simp only [putAll, Act.put, List.setIfInBounds_toArray, List.set_cons_zero, List.set_cons_succ]
              go_simp
              refine hK _ _ ⟨e0, e1, e2, e3, e4, e5, e6, .tuple #[auAt y yl, .int .i64 code], .tuple #[auAt y yl, .int .i64 code], e9, e10, e11, e13, yl, gb, ?_, hB, c0, c1, c2, c3, c4, c5, c6, c7, fun _ => ⟨h7, rfl⟩, c9, c10, c11, c12, c13, cx⟩
              simp only [putAll, Act.put, List.setIfInBounds_toArray, List.set_cons_zero, List.set_cons_succ]
              all_goals rfl
            | 9, _, hd, hk =>
              have h8 : d 8 = true := hk 8 (by decide +kernel)
              obtain ⟨h7, rfl⟩ := c8 h8
              obtain ⟨rfl, hp7⟩ := c7 h7
              apply wpOp_at
              case ho => rfl
              intro K hK
              simp only [putAll, Act.put, List.setIfInBounds_toArray, List.set_cons_zero, List.set_cons_succ]
              go_simp
              refine hK _ _ ⟨e0, e1, e2, e3, e4, e5, e6, .tuple #[auAt y yl, .int .i64 code], .tuple #[auAt y yl, .int .i64 code], auAt y yl, e10, e11, e13, yl, gb, ?_, hB, c0, c1, c2, c3, c4, c5, c6, c7, c8, fun _ => ⟨h7, rfl⟩, c10, c11, c12, c13, cx⟩
              simp only [putAll, Act.put, List.setIfInBounds_toArray, List.set_cons_zero, List.set_cons_succ]
              all_goals rfl
            | 10, _, hd, hk =>
              have h8 : d 8 = true := hk 8 (by decide +kernel)
              obtain ⟨h7, rfl⟩ := c8 h8
              obtain ⟨rfl, hp7⟩ := c7 h7
              apply wpOp_at
              case ho => rfl
              intro K hK
              simp only [putAll, Act.put, List.setIfInBounds_toArray, List.set_cons_zero, List.set_cons_succ]
              go_simp
              refine hK _ _ ⟨e0, e1, e2, e3, e4, e5, e6, .tuple #[auAt y yl, .int .i64 code], .tuple #[auAt y yl, .int .i64 code], e9, .int .i64 code, e11, e13, yl, gb, ?_, hB, c0, c1, c2, c3, c4, c5, c6, c7, c8, c9, fun _ => ⟨h7, rfl⟩, c11, c12, c13, cx⟩
              simp only [putAll, Act.put, List.setIfInBounds_toArray, List.set_cons_zero, List.set_cons_succ]
              all_goals rfl
            | 11, _, hd, hk =>
              have hb := below_box w' (.cells #[.int .i64 0, .int .i64 0, .slice none 0 0, .slice none 0 0, .slice none 0 0, .bool false] 33)
              apply wpOp_at
              case ho => rfl
              intro K hK
              simp only [putAll, Act.put, List.setIfInBounds_toArray, List.set_cons_zero, List.set_cons_succ]
              go_simp
              refine hK _ _ ⟨e0, e1, e2, e3, e4, e5, e6, e7, e8, e9, e10, .pointer (some ⟨w'.heap.size, 0, none⟩), e13, yl, w'.heap.size, ?_, hB.trans (hb.mono hB.size), c0, c1, c2, c3, c4, c5, c6, fun h => ⟨(c7 h).1, (c7 h).2.1.later hb, (c7 h).2.2.1, fun g hg => (c7 h).2.2.2 g (Nat.le_trans hb.size hg)⟩, c8, c9, c10, fun _ => ⟨rfl, hB.size, by simp, fun _ => Whole.made w' _ _⟩, fun h => Bool.noConfusion (hd.symm.trans (c12 h).2.1), c13, fun h7 _ => (c7 h7).2.2.2 _ (Nat.le_refl _)⟩
              simp only [putAll, Act.put, List.setIfInBounds_toArray, List.set_cons_zero, List.set_cons_succ]
              all_goals rfl
            | 12, _, hd, hk =>
              have h0 : d 0 = true := hk 0 (by decide +kernel)
              have h1 : d 1 = true := hk 1 (by decide +kernel)
              have h2 : d 2 = true := hk 2 (by decide +kernel)
              have h3 : d 3 = true := hk 3 (by decide +kernel)
              have h4 : d 4 = true := hk 4 (by decide +kernel)
              have h5 : d 5 = true := hk 5 (by decide +kernel)
              have h6 : d 6 = true := hk 6 (by decide +kernel)
              have h7 : d 7 = true := hk 7 (by decide +kernel)
              have h8 : d 8 = true := hk 8 (by decide +kernel)
              have h9 : d 9 = true := hk 9 (by decide +kernel)
              have h11 : d 11 = true := hk 11 (by decide +kernel)
              obtain rfl := c0 h0
              obtain rfl := c1 h1
              obtain rfl := c2 h2
              obtain rfl := c3 h3
              obtain rfl := c4 h4
              obtain rfl := c5 h5
              obtain rfl := c6 h6
              obtain ⟨rfl, hp7⟩ := c7 h7
              obtain ⟨_, rfl⟩ := c8 h8
              obtain ⟨_, rfl⟩ := c9 h9
              obtain ⟨rfl, hgb, hgl, hw0⟩ := c11 h11
              have hZ := hw0 hd
              obtain ⟨z0, z1, z2, z3, z4, z5⟩ := au_zero hZ
              have y0 := hZ.free 0
              have y1 := hZ.free 1
              have y2 := hZ.free 2
              have y3 := hZ.free 3
              have y4 := hZ.free 4
              have y5 := hZ.free 5
              apply wpOp_at
              case ho => rfl
              intro K hK
              simp only [putAll, Act.put, List.setIfInBounds_toArray, List.set_cons_zero, List.set_cons_succ]
              go_simp
              refine hK _ _ ⟨(cfV ⟨(m : Int), q, r, p, kk, cc⟩), (.int .i64 who), (auAt x ⟨b1, k1, f1, b2, k2, f2, b3, k3, f3⟩), (.slice (some ⟨b, off, none⟩) m0 cq), (.int .i64 (ix : Int)), (.pointer (some ⟨b, off + ix * 11, none⟩)), (mlV ⟨fr, tg, clk, rows, t, ai, v, asks, try_, ph', echo⟩ (.slice g1 i1 j1) (.slice g2 i2 j2)), .tuple #[auAt y yl, .int .i64 code], .tuple #[auAt y yl, .int .i64 code], auAt y yl, e10, .pointer (some ⟨gb, 0, none⟩), e13, yl, gb, ?_, au6_below (y := y) (p := yl) hB hgb, c0, c1, c2, c3, c4, c5, c6, fun h => ⟨(c7 h).1, au6_in (c7 h).2.1 (cx h h11), (c7 h).2.2.1, fun g hg => (c7 h).2.2.2 g (by rw [← au6_size (wx := w') (g := gb) (y := y) (p := yl)]; exact hg)⟩, c8, fun _ => ⟨h7, rfl⟩, c10, fun _ => ⟨rfl, hgb, by show gb < (au6 w' gb y yl).heap.size; rw [au6_size]; exact hgl, fun h => Bool.noConfusion (show true = false from h)⟩, fun _ => ⟨h7, h11, au6_whole (x := au0) hZ⟩, c13, cx⟩
              simp only [putAll, Act.put, List.setIfInBounds_toArray, List.set_cons_zero, List.set_cons_succ]
              all_goals rfl
            | 13, _, hd, hk =>
              have h0 : d 0 = true := hk 0 (by decide +kernel)
              have h1 : d 1 = true := hk 1 (by decide +kernel)
              have h2 : d 2 = true := hk 2 (by decide +kernel)
              have h3 : d 3 = true := hk 3 (by decide +kernel)
              have h4 : d 4 = true := hk 4 (by decide +kernel)
              have h5 : d 5 = true := hk 5 (by decide +kernel)
              have h6 : d 6 = true := hk 6 (by decide +kernel)
              have h7 : d 7 = true := hk 7 (by decide +kernel)
              have h8 : d 8 = true := hk 8 (by decide +kernel)
              have h9 : d 9 = true := hk 9 (by decide +kernel)
              have h10 : d 10 = true := hk 10 (by decide +kernel)
              have h11 : d 11 = true := hk 11 (by decide +kernel)
              have h12 : d 12 = true := hk 12 (by decide +kernel)
              obtain rfl := c0 h0
              obtain rfl := c1 h1
              obtain rfl := c2 h2
              obtain rfl := c3 h3
              obtain rfl := c4 h4
              obtain rfl := c5 h5
              obtain rfl := c6 h6
              obtain ⟨rfl, hp7⟩ := c7 h7
              obtain ⟨_, rfl⟩ := c8 h8
              obtain ⟨_, rfl⟩ := c9 h9
              obtain ⟨_, rfl⟩ := c10 h10
              obtain ⟨rfl, hgb⟩ := c11 h11
              apply wpOp_at
              case ho => rfl
              intro K hK
              simp only [putAll, Act.put, List.setIfInBounds_toArray, List.set_cons_zero, List.set_cons_succ]
              go_simp
              refine hK _ _ ⟨(cfV ⟨(m : Int), q, r, p, kk, cc⟩), (.int .i64 who), (auAt x ⟨b1, k1, f1, b2, k2, f2, b3, k3, f3⟩), (.slice (some ⟨b, off, none⟩) m0 cq), (.int .i64 (ix : Int)), (.pointer (some ⟨b, off + ix * 11, none⟩)), (mlV ⟨fr, tg, clk, rows, t, ai, v, asks, try_, ph', echo⟩ (.slice g1 i1 j1) (.slice g2 i2 j2)), .tuple #[auAt y yl, .int .i64 code], .tuple #[auAt y yl, .int .i64 code], auAt y yl, .int .i64 code, .pointer (some ⟨gb, 0, none⟩), .int .i64 code, yl, gb, ?_, hB, c0, c1, c2, c3, c4, c5, c6, c7, c8, c9, c10, c11, c12, fun _ => rfl, cx⟩
              simp only [putAll, Act.put, List.setIfInBounds_toArray, List.set_cons_zero, List.set_cons_succ]
              all_goals rfl
            | k + 14, hi, _, _ => exact absurd hi (by simp)
          case ends =>
            intro d a' w' hJ hall
            obtain ⟨e0, e1, e2, e3, e4, e5, e6, e7, e8, e9, e10, e11, e13, yl, gb, rfl, hB, c0, c1, c2, c3, c4, c5, c6, c7, c8, c9, c10, c11, c12, c13, cx⟩ := hJ
            obtain ⟨rfl, hA7, ho7, hf7⟩ := c7 (hall 7 (by decide))
            obtain ⟨_, rfl⟩ := c8 (hall 8 (by decide))
            obtain ⟨_, rfl⟩ := c9 (hall 9 (by decide))
            obtain ⟨_, rfl⟩ := c10 (hall 10 (by decide))
            obtain ⟨rfl, hgb, _, _⟩ := c11 (hall 11 (by decide))
            obtain ⟨_, _, hwY⟩ := c12 (hall 12 (by decide))
            obtain rfl := c13 (hall 13 (by decide))
            obtain rfl := c0 (hall 0 (by decide))
            obtain rfl := c1 (hall 1 (by decide))
            obtain rfl := c2 (hall 2 (by decide))
            obtain rfl := c3 (hall 3 (by decide))
            obtain rfl := c4 (hall 4 (by decide))
            obtain rfl := c5 (hall 5 (by decide))
            obtain rfl := c6 (hall 6 (by decide))
            simp only [putAll, Act.put, List.setIfInBounds_toArray, List.set_cons_zero, List.set_cons_succ]
            go_wp2_with fail
            go_meet
            exact ⟨gb, yl, rfl, rfl, hB, hwY, hA7, ho7, hf7, hgb⟩
        case rest =>
          obtain ⟨g9, ⟨s1, t1, v1, s2, t2, v2, s3, t3, v3⟩, rfl, rfl, Hbc, HY, HAy, Hoy, Hfy, Hg9⟩ := hcut
          clear OM
          rcases run_tell (m := ⟨fr, tg, clk, rows, t, ai, v, asks, try_, ph', echo⟩) Hx.out HWho.out with htl | ⟨y', htl, hry, hcn⟩
          · have h := Hya.out.symm.trans htl
            simp only [Prod.mk.injEq] at h
            obtain ⟨_, rfl⟩ := h
            clear htl
            go_wp2_with fail
            go_roundw
            case rel => exact ⟨ix + 1, T, ph, x, _, by omega, by go_num, rfl, rfl, Hx.out, HT.out, HIo.out.later Hbc.out⟩
            case measure => simp [intOf]; omega
          have h := Hya.out.symm.trans htl
          simp only [Prod.mk.injEq] at h
          obtain ⟨rfl, rfl⟩ := h
          have hcn' : cntB y.told m = cntB x.told m ∨ cntB y.told m = cntB x.told m + 1 := hcn
          rw [HT.out] at hcn'
          obtain ⟨C, HC⟩ : ∃ z, Hid (cntB y.told m = z) := ⟨_, rfl⟩
          rw [HC.out] at hcn'
          have HCn := Lib.hid hcn'
          have HRy := Lib.hid hry
          have hCm : C ≤ m := by rw [← HC.out]; exact cntB_le _ _
          clear htl hcn hcn' hry
          obtain ⟨tx, px, tlx, usx, icx, mvx⟩ := x
          obtain ⟨ty, py, tl, us, ic, mv⟩ := y
          obtain rfl : tx = tr := Hx.out.2.1
          obtain rfl : px = ph := Hx.out.2.2
          obtain rfl : ty = tx := HRy.out.2.1
          obtain rfl : py = px := HRy.out.2.2
          have hoky : auB ⟨(m : Int), q, r, p, kk, cc⟩ who ⟨ty, py, tl, us, ic, mv⟩ = true := decide_eq_true (HRy.out.ok HCf.out HWho.out)
          have Hoky := Lib.hid hoky; clear hoky
          have htm : t1 = m := by have h1 := HAy.out.1.1; have h2 := HRy.out.1.2.2.1; simp only at h1 h2; omega
          subst htm
          have HIc := Lib.hid (HIo.out.later Hbc.out)
          have HWc := Lib.hid (HWo.out.later Hbc.out HWo.out.lt)
          obtain ⟨d0, d1, d2, d3, d4, d5⟩ := config_cells HWc.out
          obtain ⟨e0, e1, e2, e3, e4, e5⟩ := au_cells HY.out
          simp only at d0 d1 d2 d3 d4 d5 e0 e1 e2 e3 e4 e5
          go_wp2_with fail
          refine (refauditmay_calls ⟨(t1 : Int), q, r, p, kk, cc⟩ who ⟨ty, py, tl, us, ic, mv⟩ ⟨s1, t1, v1, s2, t2, v2, s3, t3, v3⟩ _ HAy.out).mono ?_
          rw [Hoky.out]
          rintro e w6 ⟨rfl, hb⟩
          have HY6 := Lib.hid (HY.out.later hb HY.out.lt)
          have HA6 := Lib.hid (HAy.out.later hb)
          have HI6 := Lib.hid (HIc.out.later hb)
          have HW6 := Lib.hid (HWc.out.later hb HWc.out.lt)
          have Hb6 := Lib.hid (held_next Hbc.out hb)
          have Hbs6 := Lib.hid hb
          clear hb d0 d1 d2 d3 d4 d5 e0 e1 e2 e3 e4 e5
          obtain ⟨d0, d1, d2, d3, d4, d5⟩ := config_cells HW6.out
          obtain ⟨e0, e1, e2, e3, e4, e5⟩ := au_cells HY6.out
          obtain ⟨f0, f1', f2', f3', f4, f5⟩ := au_cells HI6.out.1.1
          simp only at d0 d1 d2 d3 d4 d5 e0 e1 e2 e3 e4 e5 f0 f1' f2' f3' f4 f5
          have hnl := fun w => run_neq_look w ty py
          have hbt : t1 ≤ 9223372036854775807 := by omega
          go_wp2_with fail
          go_loop [20, 21] (fun s20 s21 => ∃ k : Nat, k ≤ t1 ∧ s21 = .int .i64 (k : Int) ∧ s20 = .int .i64 ((cntB tl k : Nat) : Int)) (fun _ s21 => t1 - (intOf s21).toNat)
          case atStart => exact ⟨0, Nat.zero_le _, rfl, rfl⟩
          case round =>
            obtain ⟨k, hk, rfl, rfl⟩ := hrel
            have hck := cntB_le tl k
            by_cases hkm : k < t1
            · obtain ⟨bb, ob, hs1, hcell⟩ := HA6.out.1.2.at (i := k) (by have h : t1 = tl.length := HA6.out.1.1; show k < tl.length; omega)
              simp only at hs1 hcell
              subst hs1
              have j0 : (0 : Int) ≤ (k : Int) := by omega
              have j1' : (k : Int) < (t1 : Int) := by omega
              obtain ⟨bv, Hbv⟩ : ∃ z, Hid (tl[k]?.getD false = z) := ⟨_, rfl⟩
              rw [Hbv.out] at hcell
              have hcs : cntB tl (k + 1) = cntB tl k + if bv = true then 1 else 0 := by simp only [cntB]; rw [Hbv.out]
              have Hcs := Lib.hid hcs; clear hcs
              obtain ⟨ck, Hck⟩ : ∃ z, Hid (cntB tl k = z) := ⟨_, rfl⟩
              rw [Hck.out] at hck Hcs ⊢
              cases bv with
              | true =>
                go_wp2_with fail
                go_round
                case rel => exact ⟨k + 1, by omega, by go_num, by rw [Hcs.out]; go_num⟩
                case measure => simp [intOf]; omega
              | false =>
                go_wp2_with fail
                go_round
                case rel => exact ⟨k + 1, by omega, by go_num, by rw [Hcs.out]; rfl⟩
                case measure => simp [intOf]; omega
            · obtain rfl : k = t1 := by omega
              rw [show cntB tl k = C from HC.out]
              have HC' : Hid (cntB tl k = C) := HC.out
              have hck2 : C = T ∨ C = T + 1 := HCn.out
              have w1 : IntKind.i64.wrap ((k : Int) - 1) = (k : Int) - 1 := IntWalk.i64_in _ (by omega)
              have w2 : IntKind.i64.wrap ((T : Int) + 1) = (T : Int) + 1 := IntWalk.i64_in _ (by omega)
              have hguard : ((C : Int) != (T : Int)) = false ∨ (((C : Int) != (T : Int)) = true ∧ ((C : Int) != (T : Int) + 1) = false) := by
                rcases hck2 with h | h
                · left; simp; omega
                · right; constructor <;> simp <;> omega
              have hph := HRy.out.phase
              rcases hguard with hg1 | ⟨hg1, hg2⟩
              · rcases hph with hph | hph
                · subst hph
                  by_cases hC : (C : Int) = (k : Int) - 1
                  · have hce : ((C : Int) == (k : Int) - 1) = true := beq_iff_eq.2 hC
                    have HCq := Lib.hid hC; clear hC
                    have hends : ∃ vv ss, endsA ⟨(k : Int), q, r, p, kk, cc⟩ who ⟨ty, 1, tl, us, ic, mv⟩ l = (vv, ss, false) := by
                      obtain ⟨vv, ss, h⟩ := run_ends HRy.out HCf.out HWho.out HRt.out
                      refine ⟨vv, ss, h.trans ?_⟩
                      have h2 : cntB tl k = C := HC.out
                      have hC := HCq.out
                      refine congrArg (fun b => (vv, ss, b)) ?_
                      first | exact decide_eq_true ⟨rfl, by show ((cntB tl k : Nat) : Int) = (k : Int) - 1; omega⟩ | exact decide_eq_false (fun h => by first | (exact absurd h.1 (by decide)) | (have h3 : ((cntB tl k : Nat) : Int) = (k : Int) - 1 := h.2; omega))
                    obtain ⟨vv, ss, hends⟩ := hends
                    have HE := Lib.hid hends; clear hends
                    go_wp2_with fail
                    refine (aEnds_calls ⟨(k : Int), q, r, p, kk, cc⟩ who ⟨ty, 1, tl, us, ic, mv⟩ ⟨s1, k, v1, s2, t2, v2, s3, t3, v3⟩ a k cp l Hm.out _ HA6.out (HB.out.later (held_next (held_next Hb4.out HIo.out.1.2.2.2) Hb6.out))).mono ?_
                    rw [HE.out]
                    rintro e w7 ⟨rfl, hb⟩
                    have HY7 := Lib.hid (HY6.out.later hb HY6.out.lt)
                    have HA7 := Lib.hid (HA6.out.later hb)
                    have HI7 := Lib.hid (HI6.out.later hb)
                    have HW7 := Lib.hid (HW6.out.later hb HW6.out.lt)
                    have Hb7 := Lib.hid (held_next Hb6.out hb)
                    have Hbs7 := Lib.hid (held_next Hbs6.out hb)
                    clear hb d0 d1 d2 d3 d4 d5 e0 e1 e2 e3 e4 e5 f0 f1' f2' f3' f4 f5
                    obtain ⟨d0, d1, d2, d3, d4, d5⟩ := config_cells HW7.out
                    obtain ⟨e0, e1, e2, e3, e4, e5⟩ := au_cells HY7.out
                    simp only at d0 d1 d2 d3 d4 d5 e0 e1 e2 e3 e4 e5
                    go_wp2_with fail
                    have hnext : ∃ z, nextA ⟨(k : Int), q, r, p, kk, cc⟩ who ⟨ty, 1, tl, us, ic, mv⟩ l = (z, true) ∧ RunA ⟨(k : Int), q, r, p, kk, cc⟩ who z ty 2 ∧ cntB z.told k = 0 := by
                      have hC := HCq.out
                      rcases run_next HRy.out HCf.out HWho.out HRt.out with ⟨h, _⟩ | ⟨_, z, h1, h2, h3⟩
                      · exact absurd ⟨rfl, by have h2 : cntB tl k = C := HC.out; show ((cntB tl k : Nat) : Int) = (k : Int) - 1; omega⟩ h
                      · exact ⟨z, h1, h2, h3⟩
                    obtain ⟨z, hz1, hz2, hz3⟩ := hnext
                    have HN := Lib.hid hz1; clear hz1
                    refine (aNextO_calls ⟨(k : Int), q, r, p, kk, cc⟩ who ⟨ty, 1, tl, us, ic, mv⟩ ⟨s1, k, v1, s2, t2, v2, s3, t3, v3⟩ a k cp l Hm.out _ HA7.out (HB.out.later (held_next (held_next Hb4.out HIo.out.1.2.2.2) Hb7.out))).mono ?_
                    rw [HN.out]
                    rintro e w8 ⟨⟨y1, x1, u1, y2, x2, u2, y3, x3, u3⟩, rfl, hA, hb, hoff⟩
                    have hbx := below_box w8 (.cells (auCells z (.slice y1 x1 u1) (.slice y2 x2 u2) (.slice y3 x3 u3)) 33)
                    have HX8 := Lib.hid (Whole.made w8 33 (auCells z (.slice y1 x1 u1) (.slice y2 x2 u2) (.slice y3 x3 u3)))
                    have HY8 := Lib.hid (HY7.out.later (held_next hb hbx) HY7.out.lt)
                    have HA8 := Lib.hid (HA7.out.later hb)
                    have HI8 := Lib.hid (HI7.out.later hb)
                    have HW8 := Lib.hid (HW7.out.later (held_next hb hbx) HW7.out.lt)
                    have Hb8 := Lib.hid (held_next Hb7.out hb)
                    have HZ8 := Lib.hid hA
                    have Hoff8 := Lib.hid (hoff _ Hoy.out (Or.inl HI7.out.1.1.lt))
                    have Hfar8 := Lib.hid (fun g (hg : w8.heap.size ≤ g) => hoff g (Hfy.out g (Nat.le_trans (held_next Hbs7.out hb).size hg)) (Or.inr hg))
                    have HS8 := Lib.hid (boxA_set (y := ⟨ty, 1, tl, us, ic, mv⟩) (p := ⟨s1, k, v1, s2, t2, v2, s3, t3, v3⟩) HI8.out.1.1 HA8.out Hoy.out HI8.out.1.2.2.2 (fun g hg => Hfy.out g (Nat.le_trans (held_next Hbs7.out hb).size hg)))
                    clear hb hbx hA hoff d0 d1 d2 d3 d4 d5 e0 e1 e2 e3 e4 e5
                    obtain ⟨d0, d1, d2, d3, d4, d5⟩ := config_cells HW8.out
                    obtain ⟨e0, e1, e2, e3, e4, e5⟩ := au_cells HY8.out
                    obtain ⟨f0, f1', f2', f3', f4, f5⟩ := au_cells HI8.out.1.1
                    obtain ⟨i0, i1', i2', i3, i4, i5⟩ := au_cells HX8.out
                    simp only at d0 d1 d2 d3 d4 d5 e0 e1 e2 e3 e4 e5 f0 f1' f2' f3' f4 f5 i0 i1' i2' i3 i4 i5
                    have n0 := HI8.out.1.1.free 0
                    have n1 := HI8.out.1.1.free 1
                    have n2 := HI8.out.1.1.free 2
                    have n3 := HI8.out.1.1.free 3
                    have n4 := HI8.out.1.1.free 4
                    have n5 := HI8.out.1.1.free 5
                    have hlt8 := HI8.out.1.1.lt
                    have HX9 : Hid (Whole ((au6 w8 w4.heap.size ⟨ty, 1, tl, us, ic, mv⟩ ⟨s1, k, v1, s2, t2, v2, s3, t3, v3⟩).alloc (.cells (auCells z (.slice y1 x1 u1) (.slice y2 x2 u2) (.slice y3 x3 u3)) 33)) w8.heap.size 33 (auCells z (.slice y1 x1 u1) (.slice y2 x2 u2) (.slice y3 x3 u3))) := Whole.madeAt _ _ _ _ au6_size.symm
                    obtain ⟨q0, q1, q2, q3, q4, q5⟩ := au_cells HX9.out
                    simp only [au6] at q0 q1 q2 q3 q4 q5
                    go_wp2_with fail
                    have HT8 := Lib.hid (boxA_set (y := z) (p := ⟨y1, x1, u1, y2, x2, u2, y3, x3, u3⟩) HS8.out.1.1 (au6_in HZ8.out Hoff8.out) Hoff8.out HS8.out.1.2.2.2 (fun g hg => Hfar8.out g (by rw [au6_size] at hg; exact hg)))
                    go_roundw
                    case rel => exact ⟨ix + 1, 0, 2, z, _, by omega, by go_num, rfl, rfl, hz2, hz3, HT8.out.later (below_box _ _)⟩
                    case measure => simp [intOf]; omega
                  · have hce : ((C : Int) == (k : Int) - 1) = false := beq_eq_false_iff_ne.2 hC
                    have HCq := Lib.hid hC; clear hC
                    have hends : ∃ vv ss, endsA ⟨(k : Int), q, r, p, kk, cc⟩ who ⟨ty, 1, tl, us, ic, mv⟩ l = (vv, ss, false) := by
                      obtain ⟨vv, ss, h⟩ := run_ends HRy.out HCf.out HWho.out HRt.out
                      refine ⟨vv, ss, h.trans ?_⟩
                      have h2 : cntB tl k = C := HC.out
                      have hC := HCq.out
                      refine congrArg (fun b => (vv, ss, b)) ?_
                      first | exact decide_eq_true ⟨rfl, by show ((cntB tl k : Nat) : Int) = (k : Int) - 1; omega⟩ | exact decide_eq_false (fun h => by first | (exact absurd h.1 (by decide)) | (have h3 : ((cntB tl k : Nat) : Int) = (k : Int) - 1 := h.2; omega))
                    obtain ⟨vv, ss, hends⟩ := hends
                    have HE := Lib.hid hends; clear hends
                    go_wp2_with fail
                    refine (aEnds_calls ⟨(k : Int), q, r, p, kk, cc⟩ who ⟨ty, 1, tl, us, ic, mv⟩ ⟨s1, k, v1, s2, t2, v2, s3, t3, v3⟩ a k cp l Hm.out _ HA6.out (HB.out.later (held_next (held_next Hb4.out HIo.out.1.2.2.2) Hb6.out))).mono ?_
                    rw [HE.out]
                    rintro e w7 ⟨rfl, hb⟩
                    have HY7 := Lib.hid (HY6.out.later hb HY6.out.lt)
                    have HA7 := Lib.hid (HA6.out.later hb)
                    have HI7 := Lib.hid (HI6.out.later hb)
                    have HW7 := Lib.hid (HW6.out.later hb HW6.out.lt)
                    have Hb7 := Lib.hid (held_next Hb6.out hb)
                    have Hbs7 := Lib.hid (held_next Hbs6.out hb)
                    clear hb d0 d1 d2 d3 d4 d5 e0 e1 e2 e3 e4 e5 f0 f1' f2' f3' f4 f5
                    obtain ⟨d0, d1, d2, d3, d4, d5⟩ := config_cells HW7.out
                    obtain ⟨e0, e1, e2, e3, e4, e5⟩ := au_cells HY7.out
                    simp only at d0 d1 d2 d3 d4 d5 e0 e1 e2 e3 e4 e5
                    go_wp2_with fail
                    have hnext : ∃ z, nextA ⟨(k : Int), q, r, p, kk, cc⟩ who ⟨ty, 1, tl, us, ic, mv⟩ l = (z, false) ∧ z = ⟨ty, 1, tl, us, ic, mv⟩ := by
                      have hC := HCq.out
                      rcases run_next HRy.out HCf.out HWho.out HRt.out with ⟨_, h⟩ | ⟨h, _⟩
                      · exact ⟨_, h, rfl⟩
                      · exfalso
                        first
                        | exact absurd h.1 (by decide)
                        | (have h2 : cntB tl k = C := HC.out
                           have h3 : ((cntB tl k : Nat) : Int) = (k : Int) - 1 := h.2
                           omega)
                    obtain ⟨z, hz1, hz2⟩ := hnext
                    clear hz2
                    have HN := Lib.hid hz1; clear hz1
                    refine (aNextO_calls ⟨(k : Int), q, r, p, kk, cc⟩ who ⟨ty, 1, tl, us, ic, mv⟩ ⟨s1, k, v1, s2, t2, v2, s3, t3, v3⟩ a k cp l Hm.out _ HA7.out (HB.out.later (held_next (held_next Hb4.out HIo.out.1.2.2.2) Hb7.out))).mono ?_
                    rw [HN.out]
                    rintro e w8 ⟨⟨y1, x1, u1, y2, x2, u2, y3, x3, u3⟩, rfl, hA, hb, hoff⟩
                    have hbx := below_box w8 (.cells (auCells z (.slice y1 x1 u1) (.slice y2 x2 u2) (.slice y3 x3 u3)) 33)
                    have HX8 := Lib.hid (Whole.made w8 33 (auCells z (.slice y1 x1 u1) (.slice y2 x2 u2) (.slice y3 x3 u3)))
                    have HY8 := Lib.hid (HY7.out.later (held_next hb hbx) HY7.out.lt)
                    have HA8 := Lib.hid (HA7.out.later hb)
                    have HI8 := Lib.hid (HI7.out.later hb)
                    have HW8 := Lib.hid (HW7.out.later (held_next hb hbx) HW7.out.lt)
                    have Hb8 := Lib.hid (held_next Hb7.out hb)
                    have HZ8 := Lib.hid hA
                    have Hoff8 := Lib.hid (hoff _ Hoy.out (Or.inl HI7.out.1.1.lt))
                    have Hfar8 := Lib.hid (fun g (hg : w8.heap.size ≤ g) => hoff g (Hfy.out g (Nat.le_trans (held_next Hbs7.out hb).size hg)) (Or.inr hg))
                    have HS8 := Lib.hid (boxA_set (y := ⟨ty, 1, tl, us, ic, mv⟩) (p := ⟨s1, k, v1, s2, t2, v2, s3, t3, v3⟩) HI8.out.1.1 HA8.out Hoy.out HI8.out.1.2.2.2 (fun g hg => Hfy.out g (Nat.le_trans (held_next Hbs7.out hb).size hg)))
                    clear hb hbx hA hoff d0 d1 d2 d3 d4 d5 e0 e1 e2 e3 e4 e5
                    obtain ⟨d0, d1, d2, d3, d4, d5⟩ := config_cells HW8.out
                    obtain ⟨e0, e1, e2, e3, e4, e5⟩ := au_cells HY8.out
                    obtain ⟨f0, f1', f2', f3', f4, f5⟩ := au_cells HI8.out.1.1
                    obtain ⟨i0, i1', i2', i3, i4, i5⟩ := au_cells HX8.out
                    simp only at d0 d1 d2 d3 d4 d5 e0 e1 e2 e3 e4 e5 f0 f1' f2' f3' f4 f5 i0 i1' i2' i3 i4 i5
                    have n0 := HI8.out.1.1.free 0
                    have n1 := HI8.out.1.1.free 1
                    have n2 := HI8.out.1.1.free 2
                    have n3 := HI8.out.1.1.free 3
                    have n4 := HI8.out.1.1.free 4
                    have n5 := HI8.out.1.1.free 5
                    have hlt8 := HI8.out.1.1.lt
                    go_wp2_with fail
                    go_roundw
                    case rel => exact ⟨ix + 1, C, 1, ⟨ty, 1, tl, us, ic, mv⟩, _, by omega, by go_num, rfl, rfl, HRy.out, HC.out, HS8.out.later (below_box _ _)⟩
                    case measure => simp [intOf]; omega
                · subst hph
                  by_cases hC : (C : Int) = (k : Int) - 1
                  · have hce : ((C : Int) == (k : Int) - 1) = true := beq_iff_eq.2 hC
                    have HCq := Lib.hid hC; clear hC
                    have hends : ∃ vv ss, endsA ⟨(k : Int), q, r, p, kk, cc⟩ who ⟨ty, 2, tl, us, ic, mv⟩ l = (vv, ss, true) := by
                      obtain ⟨vv, ss, h⟩ := run_ends HRy.out HCf.out HWho.out HRt.out
                      refine ⟨vv, ss, h.trans ?_⟩
                      have h2 : cntB tl k = C := HC.out
                      have hC := HCq.out
                      refine congrArg (fun b => (vv, ss, b)) ?_
                      first | exact decide_eq_true ⟨rfl, by show ((cntB tl k : Nat) : Int) = (k : Int) - 1; omega⟩ | exact decide_eq_false (fun h => by first | (exact absurd h.1 (by decide)) | (have h3 : ((cntB tl k : Nat) : Int) = (k : Int) - 1 := h.2; omega))
                    obtain ⟨vv, ss, hends⟩ := hends
                    have HE := Lib.hid hends; clear hends
                    go_wp2_with fail
                    refine (aEnds_calls ⟨(k : Int), q, r, p, kk, cc⟩ who ⟨ty, 2, tl, us, ic, mv⟩ ⟨s1, k, v1, s2, t2, v2, s3, t3, v3⟩ a k cp l Hm.out _ HA6.out (HB.out.later (held_next (held_next Hb4.out HIo.out.1.2.2.2) Hb6.out))).mono ?_
                    rw [HE.out]
                    rintro e w7 ⟨rfl, hb⟩
                    have HY7 := Lib.hid (HY6.out.later hb HY6.out.lt)
                    have HA7 := Lib.hid (HA6.out.later hb)
                    have HI7 := Lib.hid (HI6.out.later hb)
                    have HW7 := Lib.hid (HW6.out.later hb HW6.out.lt)
                    have Hb7 := Lib.hid (held_next Hb6.out hb)
                    have Hbs7 := Lib.hid (held_next Hbs6.out hb)
                    clear hb d0 d1 d2 d3 d4 d5 e0 e1 e2 e3 e4 e5 f0 f1' f2' f3' f4 f5
                    obtain ⟨d0, d1, d2, d3, d4, d5⟩ := config_cells HW7.out
                    obtain ⟨e0, e1, e2, e3, e4, e5⟩ := au_cells HY7.out
                    simp only at d0 d1 d2 d3 d4 d5 e0 e1 e2 e3 e4 e5
                    go_wp2_with fail
                    have hnext : ∃ z, nextA ⟨(k : Int), q, r, p, kk, cc⟩ who ⟨ty, 2, tl, us, ic, mv⟩ l = (z, false) ∧ z = ⟨ty, 2, tl, us, ic, mv⟩ := by
                      have hC := HCq.out
                      rcases run_next HRy.out HCf.out HWho.out HRt.out with ⟨_, h⟩ | ⟨h, _⟩
                      · exact ⟨_, h, rfl⟩
                      · exfalso
                        first
                        | exact absurd h.1 (by decide)
                        | (have h2 : cntB tl k = C := HC.out
                           have h3 : ((cntB tl k : Nat) : Int) = (k : Int) - 1 := h.2
                           omega)
                    obtain ⟨z, hz1, hz2⟩ := hnext
                    clear hz2
                    have HN := Lib.hid hz1; clear hz1
                    refine (aNextO_calls ⟨(k : Int), q, r, p, kk, cc⟩ who ⟨ty, 2, tl, us, ic, mv⟩ ⟨s1, k, v1, s2, t2, v2, s3, t3, v3⟩ a k cp l Hm.out _ HA7.out (HB.out.later (held_next (held_next Hb4.out HIo.out.1.2.2.2) Hb7.out))).mono ?_
                    rw [HN.out]
                    rintro e w8 ⟨⟨y1, x1, u1, y2, x2, u2, y3, x3, u3⟩, rfl, hA, hb, hoff⟩
                    have hbx := below_box w8 (.cells (auCells z (.slice y1 x1 u1) (.slice y2 x2 u2) (.slice y3 x3 u3)) 33)
                    have HX8 := Lib.hid (Whole.made w8 33 (auCells z (.slice y1 x1 u1) (.slice y2 x2 u2) (.slice y3 x3 u3)))
                    have HY8 := Lib.hid (HY7.out.later (held_next hb hbx) HY7.out.lt)
                    have HA8 := Lib.hid (HA7.out.later hb)
                    have HI8 := Lib.hid (HI7.out.later hb)
                    have HW8 := Lib.hid (HW7.out.later (held_next hb hbx) HW7.out.lt)
                    have Hb8 := Lib.hid (held_next Hb7.out hb)
                    have HZ8 := Lib.hid hA
                    have Hoff8 := Lib.hid (hoff _ Hoy.out (Or.inl HI7.out.1.1.lt))
                    have Hfar8 := Lib.hid (fun g (hg : w8.heap.size ≤ g) => hoff g (Hfy.out g (Nat.le_trans (held_next Hbs7.out hb).size hg)) (Or.inr hg))
                    have HS8 := Lib.hid (boxA_set (y := ⟨ty, 2, tl, us, ic, mv⟩) (p := ⟨s1, k, v1, s2, t2, v2, s3, t3, v3⟩) HI8.out.1.1 HA8.out Hoy.out HI8.out.1.2.2.2 (fun g hg => Hfy.out g (Nat.le_trans (held_next Hbs7.out hb).size hg)))
                    clear hb hbx hA hoff d0 d1 d2 d3 d4 d5 e0 e1 e2 e3 e4 e5
                    obtain ⟨d0, d1, d2, d3, d4, d5⟩ := config_cells HW8.out
                    obtain ⟨e0, e1, e2, e3, e4, e5⟩ := au_cells HY8.out
                    obtain ⟨f0, f1', f2', f3', f4, f5⟩ := au_cells HI8.out.1.1
                    obtain ⟨i0, i1', i2', i3, i4, i5⟩ := au_cells HX8.out
                    simp only at d0 d1 d2 d3 d4 d5 e0 e1 e2 e3 e4 e5 f0 f1' f2' f3' f4 f5 i0 i1' i2' i3 i4 i5
                    have n0 := HI8.out.1.1.free 0
                    have n1 := HI8.out.1.1.free 1
                    have n2 := HI8.out.1.1.free 2
                    have n3 := HI8.out.1.1.free 3
                    have n4 := HI8.out.1.1.free 4
                    have n5 := HI8.out.1.1.free 5
                    have hlt8 := HI8.out.1.1.lt
                    go_wp2_with fail
                    go_roundw
                    case rel => exact ⟨ix + 1, C, 2, ⟨ty, 2, tl, us, ic, mv⟩, _, by omega, by go_num, rfl, rfl, HRy.out, HC.out, HS8.out.later (below_box _ _)⟩
                    case measure => simp [intOf]; omega
                  · have hce : ((C : Int) == (k : Int) - 1) = false := beq_eq_false_iff_ne.2 hC
                    have HCq := Lib.hid hC; clear hC
                    have hends : ∃ vv ss, endsA ⟨(k : Int), q, r, p, kk, cc⟩ who ⟨ty, 2, tl, us, ic, mv⟩ l = (vv, ss, false) := by
                      obtain ⟨vv, ss, h⟩ := run_ends HRy.out HCf.out HWho.out HRt.out
                      refine ⟨vv, ss, h.trans ?_⟩
                      have h2 : cntB tl k = C := HC.out
                      have hC := HCq.out
                      refine congrArg (fun b => (vv, ss, b)) ?_
                      first | exact decide_eq_true ⟨rfl, by show ((cntB tl k : Nat) : Int) = (k : Int) - 1; omega⟩ | exact decide_eq_false (fun h => by first | (exact absurd h.1 (by decide)) | (have h3 : ((cntB tl k : Nat) : Int) = (k : Int) - 1 := h.2; omega))
                    obtain ⟨vv, ss, hends⟩ := hends
                    have HE := Lib.hid hends; clear hends
                    go_wp2_with fail
                    refine (aEnds_calls ⟨(k : Int), q, r, p, kk, cc⟩ who ⟨ty, 2, tl, us, ic, mv⟩ ⟨s1, k, v1, s2, t2, v2, s3, t3, v3⟩ a k cp l Hm.out _ HA6.out (HB.out.later (held_next (held_next Hb4.out HIo.out.1.2.2.2) Hb6.out))).mono ?_
                    rw [HE.out]
                    rintro e w7 ⟨rfl, hb⟩
                    have HY7 := Lib.hid (HY6.out.later hb HY6.out.lt)
                    have HA7 := Lib.hid (HA6.out.later hb)
                    have HI7 := Lib.hid (HI6.out.later hb)
                    have HW7 := Lib.hid (HW6.out.later hb HW6.out.lt)
                    have Hb7 := Lib.hid (held_next Hb6.out hb)
                    have Hbs7 := Lib.hid (held_next Hbs6.out hb)
                    clear hb d0 d1 d2 d3 d4 d5 e0 e1 e2 e3 e4 e5 f0 f1' f2' f3' f4 f5
                    obtain ⟨d0, d1, d2, d3, d4, d5⟩ := config_cells HW7.out
                    obtain ⟨e0, e1, e2, e3, e4, e5⟩ := au_cells HY7.out
                    simp only at d0 d1 d2 d3 d4 d5 e0 e1 e2 e3 e4 e5
                    go_wp2_with fail
                    have hnext : ∃ z, nextA ⟨(k : Int), q, r, p, kk, cc⟩ who ⟨ty, 2, tl, us, ic, mv⟩ l = (z, false) ∧ z = ⟨ty, 2, tl, us, ic, mv⟩ := by
                      have hC := HCq.out
                      rcases run_next HRy.out HCf.out HWho.out HRt.out with ⟨_, h⟩ | ⟨h, _⟩
                      · exact ⟨_, h, rfl⟩
                      · exfalso
                        first
                        | exact absurd h.1 (by decide)
                        | (have h2 : cntB tl k = C := HC.out
                           have h3 : ((cntB tl k : Nat) : Int) = (k : Int) - 1 := h.2
                           omega)
                    obtain ⟨z, hz1, hz2⟩ := hnext
                    clear hz2
                    have HN := Lib.hid hz1; clear hz1
                    refine (aNextO_calls ⟨(k : Int), q, r, p, kk, cc⟩ who ⟨ty, 2, tl, us, ic, mv⟩ ⟨s1, k, v1, s2, t2, v2, s3, t3, v3⟩ a k cp l Hm.out _ HA7.out (HB.out.later (held_next (held_next Hb4.out HIo.out.1.2.2.2) Hb7.out))).mono ?_
                    rw [HN.out]
                    rintro e w8 ⟨⟨y1, x1, u1, y2, x2, u2, y3, x3, u3⟩, rfl, hA, hb, hoff⟩
                    have hbx := below_box w8 (.cells (auCells z (.slice y1 x1 u1) (.slice y2 x2 u2) (.slice y3 x3 u3)) 33)
                    have HX8 := Lib.hid (Whole.made w8 33 (auCells z (.slice y1 x1 u1) (.slice y2 x2 u2) (.slice y3 x3 u3)))
                    have HY8 := Lib.hid (HY7.out.later (held_next hb hbx) HY7.out.lt)
                    have HA8 := Lib.hid (HA7.out.later hb)
                    have HI8 := Lib.hid (HI7.out.later hb)
                    have HW8 := Lib.hid (HW7.out.later (held_next hb hbx) HW7.out.lt)
                    have Hb8 := Lib.hid (held_next Hb7.out hb)
                    have HZ8 := Lib.hid hA
                    have Hoff8 := Lib.hid (hoff _ Hoy.out (Or.inl HI7.out.1.1.lt))
                    have Hfar8 := Lib.hid (fun g (hg : w8.heap.size ≤ g) => hoff g (Hfy.out g (Nat.le_trans (held_next Hbs7.out hb).size hg)) (Or.inr hg))
                    have HS8 := Lib.hid (boxA_set (y := ⟨ty, 2, tl, us, ic, mv⟩) (p := ⟨s1, k, v1, s2, t2, v2, s3, t3, v3⟩) HI8.out.1.1 HA8.out Hoy.out HI8.out.1.2.2.2 (fun g hg => Hfy.out g (Nat.le_trans (held_next Hbs7.out hb).size hg)))
                    clear hb hbx hA hoff d0 d1 d2 d3 d4 d5 e0 e1 e2 e3 e4 e5
                    obtain ⟨d0, d1, d2, d3, d4, d5⟩ := config_cells HW8.out
                    obtain ⟨e0, e1, e2, e3, e4, e5⟩ := au_cells HY8.out
                    obtain ⟨f0, f1', f2', f3', f4, f5⟩ := au_cells HI8.out.1.1
                    obtain ⟨i0, i1', i2', i3, i4, i5⟩ := au_cells HX8.out
                    simp only at d0 d1 d2 d3 d4 d5 e0 e1 e2 e3 e4 e5 f0 f1' f2' f3' f4 f5 i0 i1' i2' i3 i4 i5
                    have n0 := HI8.out.1.1.free 0
                    have n1 := HI8.out.1.1.free 1
                    have n2 := HI8.out.1.1.free 2
                    have n3 := HI8.out.1.1.free 3
                    have n4 := HI8.out.1.1.free 4
                    have n5 := HI8.out.1.1.free 5
                    have hlt8 := HI8.out.1.1.lt
                    go_wp2_with fail
                    go_roundw
                    case rel => exact ⟨ix + 1, C, 2, ⟨ty, 2, tl, us, ic, mv⟩, _, by omega, by go_num, rfl, rfl, HRy.out, HC.out, HS8.out.later (below_box _ _)⟩
                    case measure => simp [intOf]; omega
              · rcases hph with hph | hph
                · subst hph
                  by_cases hC : (C : Int) = (k : Int) - 1
                  · have hce : ((C : Int) == (k : Int) - 1) = true := beq_iff_eq.2 hC
                    have HCq := Lib.hid hC; clear hC
                    have hends : ∃ vv ss, endsA ⟨(k : Int), q, r, p, kk, cc⟩ who ⟨ty, 1, tl, us, ic, mv⟩ l = (vv, ss, false) := by
                      obtain ⟨vv, ss, h⟩ := run_ends HRy.out HCf.out HWho.out HRt.out
                      refine ⟨vv, ss, h.trans ?_⟩
                      have h2 : cntB tl k = C := HC.out
                      have hC := HCq.out
                      refine congrArg (fun b => (vv, ss, b)) ?_
                      first | exact decide_eq_true ⟨rfl, by show ((cntB tl k : Nat) : Int) = (k : Int) - 1; omega⟩ | exact decide_eq_false (fun h => by first | (exact absurd h.1 (by decide)) | (have h3 : ((cntB tl k : Nat) : Int) = (k : Int) - 1 := h.2; omega))
                    obtain ⟨vv, ss, hends⟩ := hends
                    have HE := Lib.hid hends; clear hends
                    go_wp2_with fail
                    refine (aEnds_calls ⟨(k : Int), q, r, p, kk, cc⟩ who ⟨ty, 1, tl, us, ic, mv⟩ ⟨s1, k, v1, s2, t2, v2, s3, t3, v3⟩ a k cp l Hm.out _ HA6.out (HB.out.later (held_next (held_next Hb4.out HIo.out.1.2.2.2) Hb6.out))).mono ?_
                    rw [HE.out]
                    rintro e w7 ⟨rfl, hb⟩
                    have HY7 := Lib.hid (HY6.out.later hb HY6.out.lt)
                    have HA7 := Lib.hid (HA6.out.later hb)
                    have HI7 := Lib.hid (HI6.out.later hb)
                    have HW7 := Lib.hid (HW6.out.later hb HW6.out.lt)
                    have Hb7 := Lib.hid (held_next Hb6.out hb)
                    have Hbs7 := Lib.hid (held_next Hbs6.out hb)
                    clear hb d0 d1 d2 d3 d4 d5 e0 e1 e2 e3 e4 e5 f0 f1' f2' f3' f4 f5
                    obtain ⟨d0, d1, d2, d3, d4, d5⟩ := config_cells HW7.out
                    obtain ⟨e0, e1, e2, e3, e4, e5⟩ := au_cells HY7.out
                    simp only at d0 d1 d2 d3 d4 d5 e0 e1 e2 e3 e4 e5
                    go_wp2_with fail
                    have hnext : ∃ z, nextA ⟨(k : Int), q, r, p, kk, cc⟩ who ⟨ty, 1, tl, us, ic, mv⟩ l = (z, true) ∧ RunA ⟨(k : Int), q, r, p, kk, cc⟩ who z ty 2 ∧ cntB z.told k = 0 := by
                      have hC := HCq.out
                      rcases run_next HRy.out HCf.out HWho.out HRt.out with ⟨h, _⟩ | ⟨_, z, h1, h2, h3⟩
                      · exact absurd ⟨rfl, by have h2 : cntB tl k = C := HC.out; show ((cntB tl k : Nat) : Int) = (k : Int) - 1; omega⟩ h
                      · exact ⟨z, h1, h2, h3⟩
                    obtain ⟨z, hz1, hz2, hz3⟩ := hnext
                    have HN := Lib.hid hz1; clear hz1
                    refine (aNextO_calls ⟨(k : Int), q, r, p, kk, cc⟩ who ⟨ty, 1, tl, us, ic, mv⟩ ⟨s1, k, v1, s2, t2, v2, s3, t3, v3⟩ a k cp l Hm.out _ HA7.out (HB.out.later (held_next (held_next Hb4.out HIo.out.1.2.2.2) Hb7.out))).mono ?_
                    rw [HN.out]
                    rintro e w8 ⟨⟨y1, x1, u1, y2, x2, u2, y3, x3, u3⟩, rfl, hA, hb, hoff⟩
                    have hbx := below_box w8 (.cells (auCells z (.slice y1 x1 u1) (.slice y2 x2 u2) (.slice y3 x3 u3)) 33)
                    have HX8 := Lib.hid (Whole.made w8 33 (auCells z (.slice y1 x1 u1) (.slice y2 x2 u2) (.slice y3 x3 u3)))
                    have HY8 := Lib.hid (HY7.out.later (held_next hb hbx) HY7.out.lt)
                    have HA8 := Lib.hid (HA7.out.later hb)
                    have HI8 := Lib.hid (HI7.out.later hb)
                    have HW8 := Lib.hid (HW7.out.later (held_next hb hbx) HW7.out.lt)
                    have Hb8 := Lib.hid (held_next Hb7.out hb)
                    have HZ8 := Lib.hid hA
                    have Hoff8 := Lib.hid (hoff _ Hoy.out (Or.inl HI7.out.1.1.lt))
                    have Hfar8 := Lib.hid (fun g (hg : w8.heap.size ≤ g) => hoff g (Hfy.out g (Nat.le_trans (held_next Hbs7.out hb).size hg)) (Or.inr hg))
                    have HS8 := Lib.hid (boxA_set (y := ⟨ty, 1, tl, us, ic, mv⟩) (p := ⟨s1, k, v1, s2, t2, v2, s3, t3, v3⟩) HI8.out.1.1 HA8.out Hoy.out HI8.out.1.2.2.2 (fun g hg => Hfy.out g (Nat.le_trans (held_next Hbs7.out hb).size hg)))
                    clear hb hbx hA hoff d0 d1 d2 d3 d4 d5 e0 e1 e2 e3 e4 e5
                    obtain ⟨d0, d1, d2, d3, d4, d5⟩ := config_cells HW8.out
                    obtain ⟨e0, e1, e2, e3, e4, e5⟩ := au_cells HY8.out
                    obtain ⟨f0, f1', f2', f3', f4, f5⟩ := au_cells HI8.out.1.1
                    obtain ⟨i0, i1', i2', i3, i4, i5⟩ := au_cells HX8.out
                    simp only at d0 d1 d2 d3 d4 d5 e0 e1 e2 e3 e4 e5 f0 f1' f2' f3' f4 f5 i0 i1' i2' i3 i4 i5
                    have n0 := HI8.out.1.1.free 0
                    have n1 := HI8.out.1.1.free 1
                    have n2 := HI8.out.1.1.free 2
                    have n3 := HI8.out.1.1.free 3
                    have n4 := HI8.out.1.1.free 4
                    have n5 := HI8.out.1.1.free 5
                    have hlt8 := HI8.out.1.1.lt
                    have HX9 : Hid (Whole ((au6 w8 w4.heap.size ⟨ty, 1, tl, us, ic, mv⟩ ⟨s1, k, v1, s2, t2, v2, s3, t3, v3⟩).alloc (.cells (auCells z (.slice y1 x1 u1) (.slice y2 x2 u2) (.slice y3 x3 u3)) 33)) w8.heap.size 33 (auCells z (.slice y1 x1 u1) (.slice y2 x2 u2) (.slice y3 x3 u3))) := Whole.madeAt _ _ _ _ au6_size.symm
                    obtain ⟨q0, q1, q2, q3, q4, q5⟩ := au_cells HX9.out
                    simp only [au6] at q0 q1 q2 q3 q4 q5
                    go_wp2_with fail
                    have HT8 := Lib.hid (boxA_set (y := z) (p := ⟨y1, x1, u1, y2, x2, u2, y3, x3, u3⟩) HS8.out.1.1 (au6_in HZ8.out Hoff8.out) Hoff8.out HS8.out.1.2.2.2 (fun g hg => Hfar8.out g (by rw [au6_size] at hg; exact hg)))
                    go_roundw
                    case rel => exact ⟨ix + 1, 0, 2, z, _, by omega, by go_num, rfl, rfl, hz2, hz3, HT8.out.later (below_box _ _)⟩
                    case measure => simp [intOf]; omega
                  · have hce : ((C : Int) == (k : Int) - 1) = false := beq_eq_false_iff_ne.2 hC
                    have HCq := Lib.hid hC; clear hC
                    have hends : ∃ vv ss, endsA ⟨(k : Int), q, r, p, kk, cc⟩ who ⟨ty, 1, tl, us, ic, mv⟩ l = (vv, ss, false) := by
                      obtain ⟨vv, ss, h⟩ := run_ends HRy.out HCf.out HWho.out HRt.out
                      refine ⟨vv, ss, h.trans ?_⟩
                      have h2 : cntB tl k = C := HC.out
                      have hC := HCq.out
                      refine congrArg (fun b => (vv, ss, b)) ?_
                      first | exact decide_eq_true ⟨rfl, by show ((cntB tl k : Nat) : Int) = (k : Int) - 1; omega⟩ | exact decide_eq_false (fun h => by first | (exact absurd h.1 (by decide)) | (have h3 : ((cntB tl k : Nat) : Int) = (k : Int) - 1 := h.2; omega))
                    obtain ⟨vv, ss, hends⟩ := hends
                    have HE := Lib.hid hends; clear hends
                    go_wp2_with fail
                    refine (aEnds_calls ⟨(k : Int), q, r, p, kk, cc⟩ who ⟨ty, 1, tl, us, ic, mv⟩ ⟨s1, k, v1, s2, t2, v2, s3, t3, v3⟩ a k cp l Hm.out _ HA6.out (HB.out.later (held_next (held_next Hb4.out HIo.out.1.2.2.2) Hb6.out))).mono ?_
                    rw [HE.out]
                    rintro e w7 ⟨rfl, hb⟩
                    have HY7 := Lib.hid (HY6.out.later hb HY6.out.lt)
                    have HA7 := Lib.hid (HA6.out.later hb)
                    have HI7 := Lib.hid (HI6.out.later hb)
                    have HW7 := Lib.hid (HW6.out.later hb HW6.out.lt)
                    have Hb7 := Lib.hid (held_next Hb6.out hb)
                    have Hbs7 := Lib.hid (held_next Hbs6.out hb)
                    clear hb d0 d1 d2 d3 d4 d5 e0 e1 e2 e3 e4 e5 f0 f1' f2' f3' f4 f5
                    obtain ⟨d0, d1, d2, d3, d4, d5⟩ := config_cells HW7.out
                    obtain ⟨e0, e1, e2, e3, e4, e5⟩ := au_cells HY7.out
                    simp only at d0 d1 d2 d3 d4 d5 e0 e1 e2 e3 e4 e5
                    go_wp2_with fail
                    have hnext : ∃ z, nextA ⟨(k : Int), q, r, p, kk, cc⟩ who ⟨ty, 1, tl, us, ic, mv⟩ l = (z, false) ∧ z = ⟨ty, 1, tl, us, ic, mv⟩ := by
                      have hC := HCq.out
                      rcases run_next HRy.out HCf.out HWho.out HRt.out with ⟨_, h⟩ | ⟨h, _⟩
                      · exact ⟨_, h, rfl⟩
                      · exfalso
                        first
                        | exact absurd h.1 (by decide)
                        | (have h2 : cntB tl k = C := HC.out
                           have h3 : ((cntB tl k : Nat) : Int) = (k : Int) - 1 := h.2
                           omega)
                    obtain ⟨z, hz1, hz2⟩ := hnext
                    clear hz2
                    have HN := Lib.hid hz1; clear hz1
                    refine (aNextO_calls ⟨(k : Int), q, r, p, kk, cc⟩ who ⟨ty, 1, tl, us, ic, mv⟩ ⟨s1, k, v1, s2, t2, v2, s3, t3, v3⟩ a k cp l Hm.out _ HA7.out (HB.out.later (held_next (held_next Hb4.out HIo.out.1.2.2.2) Hb7.out))).mono ?_
                    rw [HN.out]
                    rintro e w8 ⟨⟨y1, x1, u1, y2, x2, u2, y3, x3, u3⟩, rfl, hA, hb, hoff⟩
                    have hbx := below_box w8 (.cells (auCells z (.slice y1 x1 u1) (.slice y2 x2 u2) (.slice y3 x3 u3)) 33)
                    have HX8 := Lib.hid (Whole.made w8 33 (auCells z (.slice y1 x1 u1) (.slice y2 x2 u2) (.slice y3 x3 u3)))
                    have HY8 := Lib.hid (HY7.out.later (held_next hb hbx) HY7.out.lt)
                    have HA8 := Lib.hid (HA7.out.later hb)
                    have HI8 := Lib.hid (HI7.out.later hb)
                    have HW8 := Lib.hid (HW7.out.later (held_next hb hbx) HW7.out.lt)
                    have Hb8 := Lib.hid (held_next Hb7.out hb)
                    have HZ8 := Lib.hid hA
                    have Hoff8 := Lib.hid (hoff _ Hoy.out (Or.inl HI7.out.1.1.lt))
                    have Hfar8 := Lib.hid (fun g (hg : w8.heap.size ≤ g) => hoff g (Hfy.out g (Nat.le_trans (held_next Hbs7.out hb).size hg)) (Or.inr hg))
                    have HS8 := Lib.hid (boxA_set (y := ⟨ty, 1, tl, us, ic, mv⟩) (p := ⟨s1, k, v1, s2, t2, v2, s3, t3, v3⟩) HI8.out.1.1 HA8.out Hoy.out HI8.out.1.2.2.2 (fun g hg => Hfy.out g (Nat.le_trans (held_next Hbs7.out hb).size hg)))
                    clear hb hbx hA hoff d0 d1 d2 d3 d4 d5 e0 e1 e2 e3 e4 e5
                    obtain ⟨d0, d1, d2, d3, d4, d5⟩ := config_cells HW8.out
                    obtain ⟨e0, e1, e2, e3, e4, e5⟩ := au_cells HY8.out
                    obtain ⟨f0, f1', f2', f3', f4, f5⟩ := au_cells HI8.out.1.1
                    obtain ⟨i0, i1', i2', i3, i4, i5⟩ := au_cells HX8.out
                    simp only at d0 d1 d2 d3 d4 d5 e0 e1 e2 e3 e4 e5 f0 f1' f2' f3' f4 f5 i0 i1' i2' i3 i4 i5
                    have n0 := HI8.out.1.1.free 0
                    have n1 := HI8.out.1.1.free 1
                    have n2 := HI8.out.1.1.free 2
                    have n3 := HI8.out.1.1.free 3
                    have n4 := HI8.out.1.1.free 4
                    have n5 := HI8.out.1.1.free 5
                    have hlt8 := HI8.out.1.1.lt
                    go_wp2_with fail
                    go_roundw
                    case rel => exact ⟨ix + 1, C, 1, ⟨ty, 1, tl, us, ic, mv⟩, _, by omega, by go_num, rfl, rfl, HRy.out, HC.out, HS8.out.later (below_box _ _)⟩
                    case measure => simp [intOf]; omega
                · subst hph
                  by_cases hC : (C : Int) = (k : Int) - 1
                  · have hce : ((C : Int) == (k : Int) - 1) = true := beq_iff_eq.2 hC
                    have HCq := Lib.hid hC; clear hC
                    have hends : ∃ vv ss, endsA ⟨(k : Int), q, r, p, kk, cc⟩ who ⟨ty, 2, tl, us, ic, mv⟩ l = (vv, ss, true) := by
                      obtain ⟨vv, ss, h⟩ := run_ends HRy.out HCf.out HWho.out HRt.out
                      refine ⟨vv, ss, h.trans ?_⟩
                      have h2 : cntB tl k = C := HC.out
                      have hC := HCq.out
                      refine congrArg (fun b => (vv, ss, b)) ?_
                      first | exact decide_eq_true ⟨rfl, by show ((cntB tl k : Nat) : Int) = (k : Int) - 1; omega⟩ | exact decide_eq_false (fun h => by first | (exact absurd h.1 (by decide)) | (have h3 : ((cntB tl k : Nat) : Int) = (k : Int) - 1 := h.2; omega))
                    obtain ⟨vv, ss, hends⟩ := hends
                    have HE := Lib.hid hends; clear hends
                    go_wp2_with fail
                    refine (aEnds_calls ⟨(k : Int), q, r, p, kk, cc⟩ who ⟨ty, 2, tl, us, ic, mv⟩ ⟨s1, k, v1, s2, t2, v2, s3, t3, v3⟩ a k cp l Hm.out _ HA6.out (HB.out.later (held_next (held_next Hb4.out HIo.out.1.2.2.2) Hb6.out))).mono ?_
                    rw [HE.out]
                    rintro e w7 ⟨rfl, hb⟩
                    have HY7 := Lib.hid (HY6.out.later hb HY6.out.lt)
                    have HA7 := Lib.hid (HA6.out.later hb)
                    have HI7 := Lib.hid (HI6.out.later hb)
                    have HW7 := Lib.hid (HW6.out.later hb HW6.out.lt)
                    have Hb7 := Lib.hid (held_next Hb6.out hb)
                    have Hbs7 := Lib.hid (held_next Hbs6.out hb)
                    clear hb d0 d1 d2 d3 d4 d5 e0 e1 e2 e3 e4 e5 f0 f1' f2' f3' f4 f5
                    obtain ⟨d0, d1, d2, d3, d4, d5⟩ := config_cells HW7.out
                    obtain ⟨e0, e1, e2, e3, e4, e5⟩ := au_cells HY7.out
                    simp only at d0 d1 d2 d3 d4 d5 e0 e1 e2 e3 e4 e5
                    go_wp2_with fail
                    have hnext : ∃ z, nextA ⟨(k : Int), q, r, p, kk, cc⟩ who ⟨ty, 2, tl, us, ic, mv⟩ l = (z, false) ∧ z = ⟨ty, 2, tl, us, ic, mv⟩ := by
                      have hC := HCq.out
                      rcases run_next HRy.out HCf.out HWho.out HRt.out with ⟨_, h⟩ | ⟨h, _⟩
                      · exact ⟨_, h, rfl⟩
                      · exfalso
                        first
                        | exact absurd h.1 (by decide)
                        | (have h2 : cntB tl k = C := HC.out
                           have h3 : ((cntB tl k : Nat) : Int) = (k : Int) - 1 := h.2
                           omega)
                    obtain ⟨z, hz1, hz2⟩ := hnext
                    clear hz2
                    have HN := Lib.hid hz1; clear hz1
                    refine (aNextO_calls ⟨(k : Int), q, r, p, kk, cc⟩ who ⟨ty, 2, tl, us, ic, mv⟩ ⟨s1, k, v1, s2, t2, v2, s3, t3, v3⟩ a k cp l Hm.out _ HA7.out (HB.out.later (held_next (held_next Hb4.out HIo.out.1.2.2.2) Hb7.out))).mono ?_
                    rw [HN.out]
                    rintro e w8 ⟨⟨y1, x1, u1, y2, x2, u2, y3, x3, u3⟩, rfl, hA, hb, hoff⟩
                    have hbx := below_box w8 (.cells (auCells z (.slice y1 x1 u1) (.slice y2 x2 u2) (.slice y3 x3 u3)) 33)
                    have HX8 := Lib.hid (Whole.made w8 33 (auCells z (.slice y1 x1 u1) (.slice y2 x2 u2) (.slice y3 x3 u3)))
                    have HY8 := Lib.hid (HY7.out.later (held_next hb hbx) HY7.out.lt)
                    have HA8 := Lib.hid (HA7.out.later hb)
                    have HI8 := Lib.hid (HI7.out.later hb)
                    have HW8 := Lib.hid (HW7.out.later (held_next hb hbx) HW7.out.lt)
                    have Hb8 := Lib.hid (held_next Hb7.out hb)
                    have HZ8 := Lib.hid hA
                    have Hoff8 := Lib.hid (hoff _ Hoy.out (Or.inl HI7.out.1.1.lt))
                    have Hfar8 := Lib.hid (fun g (hg : w8.heap.size ≤ g) => hoff g (Hfy.out g (Nat.le_trans (held_next Hbs7.out hb).size hg)) (Or.inr hg))
                    have HS8 := Lib.hid (boxA_set (y := ⟨ty, 2, tl, us, ic, mv⟩) (p := ⟨s1, k, v1, s2, t2, v2, s3, t3, v3⟩) HI8.out.1.1 HA8.out Hoy.out HI8.out.1.2.2.2 (fun g hg => Hfy.out g (Nat.le_trans (held_next Hbs7.out hb).size hg)))
                    clear hb hbx hA hoff d0 d1 d2 d3 d4 d5 e0 e1 e2 e3 e4 e5
                    obtain ⟨d0, d1, d2, d3, d4, d5⟩ := config_cells HW8.out
                    obtain ⟨e0, e1, e2, e3, e4, e5⟩ := au_cells HY8.out
                    obtain ⟨f0, f1', f2', f3', f4, f5⟩ := au_cells HI8.out.1.1
                    obtain ⟨i0, i1', i2', i3, i4, i5⟩ := au_cells HX8.out
                    simp only at d0 d1 d2 d3 d4 d5 e0 e1 e2 e3 e4 e5 f0 f1' f2' f3' f4 f5 i0 i1' i2' i3 i4 i5
                    have n0 := HI8.out.1.1.free 0
                    have n1 := HI8.out.1.1.free 1
                    have n2 := HI8.out.1.1.free 2
                    have n3 := HI8.out.1.1.free 3
                    have n4 := HI8.out.1.1.free 4
                    have n5 := HI8.out.1.1.free 5
                    have hlt8 := HI8.out.1.1.lt
                    go_wp2_with fail
                    go_roundw
                    case rel => exact ⟨ix + 1, C, 2, ⟨ty, 2, tl, us, ic, mv⟩, _, by omega, by go_num, rfl, rfl, HRy.out, HC.out, HS8.out.later (below_box _ _)⟩
                    case measure => simp [intOf]; omega
                  · have hce : ((C : Int) == (k : Int) - 1) = false := beq_eq_false_iff_ne.2 hC
                    have HCq := Lib.hid hC; clear hC
                    have hends : ∃ vv ss, endsA ⟨(k : Int), q, r, p, kk, cc⟩ who ⟨ty, 2, tl, us, ic, mv⟩ l = (vv, ss, false) := by
                      obtain ⟨vv, ss, h⟩ := run_ends HRy.out HCf.out HWho.out HRt.out
                      refine ⟨vv, ss, h.trans ?_⟩
                      have h2 : cntB tl k = C := HC.out
                      have hC := HCq.out
                      refine congrArg (fun b => (vv, ss, b)) ?_
                      first | exact decide_eq_true ⟨rfl, by show ((cntB tl k : Nat) : Int) = (k : Int) - 1; omega⟩ | exact decide_eq_false (fun h => by first | (exact absurd h.1 (by decide)) | (have h3 : ((cntB tl k : Nat) : Int) = (k : Int) - 1 := h.2; omega))
                    obtain ⟨vv, ss, hends⟩ := hends
                    have HE := Lib.hid hends; clear hends
                    go_wp2_with fail
                    refine (aEnds_calls ⟨(k : Int), q, r, p, kk, cc⟩ who ⟨ty, 2, tl, us, ic, mv⟩ ⟨s1, k, v1, s2, t2, v2, s3, t3, v3⟩ a k cp l Hm.out _ HA6.out (HB.out.later (held_next (held_next Hb4.out HIo.out.1.2.2.2) Hb6.out))).mono ?_
                    rw [HE.out]
                    rintro e w7 ⟨rfl, hb⟩
                    have HY7 := Lib.hid (HY6.out.later hb HY6.out.lt)
                    have HA7 := Lib.hid (HA6.out.later hb)
                    have HI7 := Lib.hid (HI6.out.later hb)
                    have HW7 := Lib.hid (HW6.out.later hb HW6.out.lt)
                    have Hb7 := Lib.hid (held_next Hb6.out hb)
                    have Hbs7 := Lib.hid (held_next Hbs6.out hb)
                    clear hb d0 d1 d2 d3 d4 d5 e0 e1 e2 e3 e4 e5 f0 f1' f2' f3' f4 f5
                    obtain ⟨d0, d1, d2, d3, d4, d5⟩ := config_cells HW7.out
                    obtain ⟨e0, e1, e2, e3, e4, e5⟩ := au_cells HY7.out
                    simp only at d0 d1 d2 d3 d4 d5 e0 e1 e2 e3 e4 e5
                    go_wp2_with fail
                    have hnext : ∃ z, nextA ⟨(k : Int), q, r, p, kk, cc⟩ who ⟨ty, 2, tl, us, ic, mv⟩ l = (z, false) ∧ z = ⟨ty, 2, tl, us, ic, mv⟩ := by
                      have hC := HCq.out
                      rcases run_next HRy.out HCf.out HWho.out HRt.out with ⟨_, h⟩ | ⟨h, _⟩
                      · exact ⟨_, h, rfl⟩
                      · exfalso
                        first
                        | exact absurd h.1 (by decide)
                        | (have h2 : cntB tl k = C := HC.out
                           have h3 : ((cntB tl k : Nat) : Int) = (k : Int) - 1 := h.2
                           omega)
                    obtain ⟨z, hz1, hz2⟩ := hnext
                    clear hz2
                    have HN := Lib.hid hz1; clear hz1
                    refine (aNextO_calls ⟨(k : Int), q, r, p, kk, cc⟩ who ⟨ty, 2, tl, us, ic, mv⟩ ⟨s1, k, v1, s2, t2, v2, s3, t3, v3⟩ a k cp l Hm.out _ HA7.out (HB.out.later (held_next (held_next Hb4.out HIo.out.1.2.2.2) Hb7.out))).mono ?_
                    rw [HN.out]
                    rintro e w8 ⟨⟨y1, x1, u1, y2, x2, u2, y3, x3, u3⟩, rfl, hA, hb, hoff⟩
                    have hbx := below_box w8 (.cells (auCells z (.slice y1 x1 u1) (.slice y2 x2 u2) (.slice y3 x3 u3)) 33)
                    have HX8 := Lib.hid (Whole.made w8 33 (auCells z (.slice y1 x1 u1) (.slice y2 x2 u2) (.slice y3 x3 u3)))
                    have HY8 := Lib.hid (HY7.out.later (held_next hb hbx) HY7.out.lt)
                    have HA8 := Lib.hid (HA7.out.later hb)
                    have HI8 := Lib.hid (HI7.out.later hb)
                    have HW8 := Lib.hid (HW7.out.later (held_next hb hbx) HW7.out.lt)
                    have Hb8 := Lib.hid (held_next Hb7.out hb)
                    have HZ8 := Lib.hid hA
                    have Hoff8 := Lib.hid (hoff _ Hoy.out (Or.inl HI7.out.1.1.lt))
                    have Hfar8 := Lib.hid (fun g (hg : w8.heap.size ≤ g) => hoff g (Hfy.out g (Nat.le_trans (held_next Hbs7.out hb).size hg)) (Or.inr hg))
                    have HS8 := Lib.hid (boxA_set (y := ⟨ty, 2, tl, us, ic, mv⟩) (p := ⟨s1, k, v1, s2, t2, v2, s3, t3, v3⟩) HI8.out.1.1 HA8.out Hoy.out HI8.out.1.2.2.2 (fun g hg => Hfy.out g (Nat.le_trans (held_next Hbs7.out hb).size hg)))
                    clear hb hbx hA hoff d0 d1 d2 d3 d4 d5 e0 e1 e2 e3 e4 e5
                    obtain ⟨d0, d1, d2, d3, d4, d5⟩ := config_cells HW8.out
                    obtain ⟨e0, e1, e2, e3, e4, e5⟩ := au_cells HY8.out
                    obtain ⟨f0, f1', f2', f3', f4, f5⟩ := au_cells HI8.out.1.1
                    obtain ⟨i0, i1', i2', i3, i4, i5⟩ := au_cells HX8.out
                    simp only at d0 d1 d2 d3 d4 d5 e0 e1 e2 e3 e4 e5 f0 f1' f2' f3' f4 f5 i0 i1' i2' i3 i4 i5
                    have n0 := HI8.out.1.1.free 0
                    have n1 := HI8.out.1.1.free 1
                    have n2 := HI8.out.1.1.free 2
                    have n3 := HI8.out.1.1.free 3
                    have n4 := HI8.out.1.1.free 4
                    have n5 := HI8.out.1.1.free 5
                    have hlt8 := HI8.out.1.1.lt
                    go_wp2_with fail
                    go_roundw
                    case rel => exact ⟨ix + 1, C, 2, ⟨ty, 2, tl, us, ic, mv⟩, _, by omega, by go_num, rfl, rfl, HRy.out, HC.out, HS8.out.later (below_box _ _)⟩
                    case measure => simp [intOf]; omega
end Go.Proofs.Ytgonboccklpoaaa
