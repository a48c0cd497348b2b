/- The document's own, layer 14: may a message be. No law is proved here. -/
import Derived.Test.YtbpmonbehibgdaaRefClaimNote
import Derived.Test.YtbpmonbehibgdaaRefRightsRight
import Derived.WalkSmall
namespace Go.Proofs.Ytbpmonbehibgdaa
open Go.RowKit

/-- a config and a message in two boxes behind what was there -/
def KeptM (w : World) (g : Nat) (c : Cf) (x : Ml) (rv ev : Value) (wx : World) : Prop := Below w.heap.size w wx ∧ Whole wx g 23 (cfCells c) ∧ Whole wx (g + 1) 34 (mlCells x rv ev)
theorem KeptM.later {w : World} {g : Nat} {c : Cf} {x : Ml} {rv ev : Value} {wx wy : World} (h : KeptM w g c x rv ev wx) (hb : Below wx.heap.size wx wy) : KeptM w g c x rv ev wy := ⟨held_next h.1 hb, h.2.1.later hb h.2.1.lt, h.2.2.later hb h.2.2.lt⟩
theorem ml_cells {w : World} {g : Nat} {x : Ml} {rv ev : Value} (h : Whole w g 34 (mlCells x rv ev)) :
    w.cell? ⟨g, 0, none⟩ = some (.int .i64 x.fr) ∧ w.cell? ⟨g, 1, none⟩ = some (.int .i64 x.to) ∧ w.cell? ⟨g, 2, none⟩ = some (.int .i64 x.clk) ∧ w.cell? ⟨g, 3, none⟩ = some rv ∧ w.cell? ⟨g, 4, none⟩ = some (.int .i64 x.t) ∧ w.cell? ⟨g, 5, none⟩ = some (.int .i64 x.a) ∧
    w.cell? ⟨g, 6, none⟩ = some (.int .i64 x.m) ∧ w.cell? ⟨g, 7, none⟩ = some (.int .i64 x.asks) ∧ w.cell? ⟨g, 8, none⟩ = some (.int .i64 x.try_) ∧ w.cell? ⟨g, 9, none⟩ = some (.int .i64 x.ph) ∧ w.cell? ⟨g, 10, none⟩ = some ev :=
  ⟨h.cell 0, h.cell 1, h.cell 2, h.cell 3, h.cell 4, h.cell 5, h.cell 6, h.cell 7, h.cell 8, h.cell 9, h.cell 10⟩
set_option maxRecDepth 100000 in
set_option maxHeartbeats 8000000 in
theorem refmaymail_calls (c : Cf) (x : Ml) (a1 : Option Addr) (m1 c1 : Nat) (a2 : Option Addr) (m2 c2 : Nat) (w : World) (hM : MailIn w a1 m1 c1 a2 m2 c2 x) :
    Calls Try.prog 13 #[cfV c, mlV x (.slice a1 m1 c1) (.slice a2 m2 c2)] w (Says w (mailB c x)) := by
  obtain ⟨hm1, hB1, hm2, hB2⟩ := hM
  have hbig1 : m1 ≤ 9223372036854775807 := by rw [hm1]; exact hB1.big
  have hbig2 : m2 ≤ 9223372036854775807 := by rw [hm2]; exact hB2.1
  have HK : Hid (KeptM w w.heap.size c x (.slice a1 m1 c1) (.slice a2 m2 c2) ((w.alloc (.cells (cfCells c) 23)).alloc (.cells (mlCells x (.slice a1 m1 c1) (.slice a2 m2 c2)) 34))) :=
    ⟨below_two w _ _, (Whole.made w _ _).alloc _, Whole.made2 w _ _ _⟩
  have HB1 := Lib.hid hB1; clear hB1
  have HB2 := Lib.hid hB2; clear hB2
  have Hm1 := Lib.hid hm1; clear hm1
  have Hm2 := Lib.hid hm2; clear hm2
  obtain ⟨n, q, r, p, kk, cc⟩ := c
  obtain ⟨fr, tg, clk, rows, t, a, m, asks, try_, ph, echo⟩ := x
  obtain ⟨res, Hres⟩ : ∃ z, Hid (mailB ⟨n, q, r, p, kk, cc⟩ ⟨fr, tg, clk, rows, t, a, m, asks, try_, ph, echo⟩ = z) := ⟨_, rfl⟩
  have no : ¬ mailOk ⟨n, q, r, p, kk, cc⟩ ⟨fr, tg, clk, rows, t, a, m, asks, try_, ph, echo⟩ → res = false := fun h => Hres.out.symm.trans (mailB_no h)
  have No := Lib.hid no; clear no
  rw [Hres.out]
  obtain ⟨ok, Hok⟩ : ∃ z, Hid (rightB ⟨n, q, r, p, kk, cc⟩ rows = z) := ⟨_, rfl⟩
  go_enter Try.func13, Try.ntmps13
  go_wp2_with fail
  refine (refright_calls ⟨n, q, r, p, kk, cc⟩ a1 m1 c1 rows Hm1.out _ (HB1.out.later HK.out.1)).mono ?_
  rintro e w1 ⟨rfl, hb⟩
  rw [Hok.out]
  have HK1 := Lib.hid (HK.out.later hb)
  clear hb HK
  obtain ⟨d0, d1, d2, d3, d4, d5⟩ := config_cells HK1.out.2.1
  obtain ⟨e0, e1, e2, e3, e4, e5, e6, e7, e8, e9, e10⟩ := ml_cells HK1.out.2.2
  simp only at d0 d1 d2 d3 d4 d5 e0 e1 e2 e3 e4 e5 e6 e7 e8 e9 e10
  cases ok with
  | false =>
    obtain rfl : res = false := No.out fun h => by
      have : rightB ⟨n, q, r, p, kk, cc⟩ rows = true := decide_eq_true h.1
      rw [Hok.out] at this
      cases this
    go_wp2_with fail
    go_ret
    exact ⟨by rfl, HK1.out.1⟩
  | true =>
    by_cases h1 : fr < 0
    · obtain rfl : res = false := No.out fun h => by have h3 : 0 ≤ fr := h.2.1.1; omega
      go_wp2_with fail
      go_ret
      exact ⟨by rfl, HK1.out.1⟩
    by_cases h2 : n ≤ fr
    · obtain rfl : res = false := No.out fun h => by have h3 : fr < n := h.2.1.2; omega
      go_wp2_with fail
      go_ret
      exact ⟨by rfl, HK1.out.1⟩
    by_cases h3 : tg < 0
    · obtain rfl : res = false := No.out fun h => by have h3 : 0 ≤ tg := h.2.2.1.1; omega
      go_wp2_with fail
      go_ret
      exact ⟨by rfl, HK1.out.1⟩
    by_cases h4 : n ≤ tg
    · obtain rfl : res = false := No.out fun h => by have h3 : tg < n := h.2.2.1.2; omega
      go_wp2_with fail
      go_ret
      exact ⟨by rfl, HK1.out.1⟩
    by_cases h5 : fr = tg
    · obtain rfl : res = false := No.out fun h => h.2.2.2.1 h5
      subst h5
      go_wp2_with fail
      go_ret
      exact ⟨by rfl, HK1.out.1⟩
    have h5' : (fr == tg) = false := beq_eq_false_iff_ne.2 h5
    by_cases h6 : clk = 0
    · obtain rfl : res = false := No.out fun h => h.2.2.2.2.1 h6
      subst h6
      clear h5
      go_wp2_with fail
      go_ret
      exact ⟨by rfl, HK1.out.1⟩
    have h6' : (clk == 0) = false := beq_eq_false_iff_ne.2 h6
    by_cases h7 : ¬ (m2 : Int) = n
    · obtain rfl : res = false := No.out fun h => h7 (by have := h.2.2.2.2.2.1; rw [Hm2.out]; exact this)
      have h7' : ((m2 : Int) != n) = true := bne_iff_ne.2 h7
      clear h5 h6 h7
      go_wp2_with fail
      go_ret
      exact ⟨by rfl, HK1.out.1⟩
    have h7' : (m2 : Int) = n := by omega
    have Hro := Lib.hid (rightB_ok Hok.out)
    have hn16 : n ≤ 16 := Hro.out.1.2.1
    have H56 := Lib.hid (And.intro h5 h6)
    subst h7'
    have hf1 : 0 ≤ fr := by omega
    have hf2 : fr < (m2 : Int) := by omega
    have ht1 : 0 ≤ tg := by omega
    have ht2 : tg < (m2 : Int) := by omega
    clear h1 h2 h3 h4 h5 h6 h7
    go_wp2_with fail
    clear d0 d1 d2 d3 d4 d5 e0 e1 e2 e3 e4 e5 e6 e7 e8 e9 e10
    go_loopw [5] (fun s5 wr => ∃ k : Nat, k ≤ m2 ∧ s5 = .int .i64 k ∧ Hid (∀ i, i < k → lookB (lkAt echo i).1 (lkAt echo i).2 = true ∧ ((i : Int) = fr → (lkAt echo i).2 ≤ 0)) ∧ Hid (KeptM w w.heap.size ⟨m2, q, r, p, kk, cc⟩ ⟨fr, tg, clk, rows, t, a, m, asks, try_, ph, echo⟩ (.slice a1 m1 c1) (.slice a2 m2 c2) wr)) (fun s5 _ => m2 - (intOf s5).toNat)
    case atStart => exact ⟨0, Nat.zero_le _, rfl, fun z hz => absurd hz (Nat.not_lt_zero _), HK1.out⟩
    case round =>
      obtain ⟨k, hk, rfl, Hl, HKr⟩ := hrel
      obtain ⟨d0, d1, d2, d3, d4, d5⟩ := config_cells HKr.out.2.1
      obtain ⟨e0, e1, e2, e3, e4, e5, e6, e7, e8, e9, e10⟩ := ml_cells HKr.out.2.2
      simp only at d0 d1 d2 d3 d4 d5 e0 e1 e2 e3 e4 e5 e6 e7 e8 e9 e10
      by_cases hlt : k < m2
      · obtain ⟨b, off, rfl, g0, g1⟩ := (HB2.out.later HKr.out.1).at (i := k) (by have := Hm2.out; omega)
        obtain ⟨y, Hy⟩ : ∃ z, Hid (lkAt echo k = z) := ⟨_, rfl⟩
        rw [Hy.out] at g0 g1
        obtain ⟨y1, y2⟩ := y
        simp only at g0 g1
        obtain ⟨v, Hv⟩ : ∃ z, Hid (lookB y1 y2 = z) := ⟨_, rfl⟩
        have k0 : (0 : Int) ≤ (k : Int) := by omega
        have k1 : (k : Int) < (m2 : Int) := by omega
        go_wp2_with fail
        refine (reflook_calls y1 y2 _).mono ?_
        rintro e w2 ⟨rfl, hb⟩
        rw [Hv.out]
        have HK2 := Lib.hid (HKr.out.later hb)
        replace g0 := cell_later hb g0
        replace g1 := cell_later hb g1
        clear hb d0 d1 d2 d3 d4 d5 e0 e1 e2 e3 e4 e5 e6 e7 e8 e9 e10
        obtain ⟨d0, d1, d2, d3, d4, d5⟩ := config_cells HK2.out.2.1
        obtain ⟨e0, e1, e2, e3, e4, e5, e6, e7, e8, e9, e10⟩ := ml_cells HK2.out.2.2
        simp only at d0 d1 d2 d3 d4 d5 e0 e1 e2 e3 e4 e5 e6 e7 e8 e9 e10
        cases v with
        | false =>
          obtain rfl : res = false := No.out fun h => by
            have := (h.2.2.2.2.2.2.1 k (by have := Hm2.out; show k < echo.length; omega)).1
            have h9 : lookB (lkAt echo k).1 (lkAt echo k).2 = true := this
            rw [Hy.out, Hv.out] at h9
            cases h9
          go_wp2_with fail
          go_ret
          exact ⟨by rfl, HK2.out.1⟩
        | true =>
          by_cases hkf : (k : Int) = fr
          · have hkf' : ((k : Int) == fr) = true := beq_iff_eq.2 hkf
            have Hkf := Lib.hid hkf; clear hkf
            by_cases hy2 : 0 < y2
            · obtain rfl : res = false := No.out fun h => by
                have h9 : ¬ 0 < (lkAt echo k).2 := (h.2.2.2.2.2.2.1 k (by have := Hm2.out; show k < echo.length; omega)).2 Hkf.out
                rw [Hy.out] at h9
                exact h9 hy2
              go_wp2_with fail
              go_ret
              exact ⟨by rfl, HK2.out.1⟩
            · have hy2' : ¬ 0 < y2 := hy2
              have Hy2 := Lib.hid hy2'
              clear hy2'
              go_wp2_with fail
              go_roundw
              case rel => exact ⟨k + 1, by omega, by go_num, (fun z hz => by
                by_cases e : z = k
                · subst e; rw [Hy.out]; exact ⟨Hv.out, fun _ => show y2 ≤ 0 by have := Hy2.out; omega⟩
                · exact Hl.out z (by omega)), HK2.out⟩
              case measure => simp [intOf]; omega
          · have hkf' : ((k : Int) == fr) = false := beq_eq_false_iff_ne.2 hkf
            have Hkf := Lib.hid hkf; clear hkf
            go_wp2_with fail
            go_roundw
            case rel => exact ⟨k + 1, by omega, by go_num, (fun z hz => by
              by_cases e : z = k
              · subst e; rw [Hy.out]; exact ⟨Hv.out, fun h => absurd h Hkf.out⟩
              · exact Hl.out z (by omega)), HK2.out⟩
            case measure => simp [intOf]; omega
      · have hall : ∀ i, i < echo.length → lookB (lkAt echo i).1 (lkAt echo i).2 = true ∧ ((i : Int) = fr → ¬ 0 < (lkAt echo i).2) := fun i hi => ⟨(Hl.out i (by have := Hm2.out; omega)).1, fun h => Int.not_lt.2 ((Hl.out i (by have := Hm2.out; omega)).2 h)⟩
        have hres : res = noteB ⟨m2, q, r, p, kk, cc⟩ fr ⟨clk, t, a, m, asks, try_, ph⟩ := by
          by_cases hnb : noteB ⟨m2, q, r, p, kk, cc⟩ fr ⟨clk, t, a, m, asks, try_, ph⟩ = true
          · rw [hnb]
            exact Hres.out.symm.trans (decide_eq_true ⟨Hro.out, ⟨hf1, hf2⟩, ⟨ht1, ht2⟩, H56.out.1, H56.out.2, by show (echo.length : Int) = m2; rw [← Hm2.out], hall, hnb⟩)
          · rw [Bool.eq_false_iff.2 hnb]
            exact No.out fun h => hnb h.2.2.2.2.2.2.2
        have HR := Lib.hid hres; clear hres
        go_wp2_with fail
        refine (refnote_calls ⟨m2, q, r, p, kk, cc⟩ fr ⟨clk, t, a, m, asks, try_, ph⟩ _).mono ?_
        rintro e w2 ⟨rfl, hb⟩
        have HK2 := Lib.hid (HKr.out.later hb)
        rw [← HR.out]
        clear hb
        go_wp2_with fail
        go_ret
        exact ⟨by rfl, HK2.out.1⟩
end Go.Proofs.Ytbpmonbehibgdaa