/- Parts, as far as BookNewCards reaches them, of: LineMay, ClaimFits, ClaimMay, BookMay. No law is proved here. -/
import Derived.Test.YtnkgakhnlbifdaaNk14
import Derived.Test.YtnkgakhnlbifdaaNk7
import Derived.Test.YtnkgakhnlbifdaaNk10
import Derived.WalkSmall
import Derived.Test.YtnkgakhnlbifdaaNk11
import Derived.Test.YtnkgakhnlbifdaaNk2
import Derived.IntWalk
import Derived.Deep.QuietTactic
import Derived.BigQuiet
namespace Go.Proofs.Ytnkgakhnlbifdaa
open Go.RowKit
theorem fault_zero {c : Cf} {who : Int} {l : List Rq} {k : Nat} {x : Rq} : faultV c who l k x = 0 ↔ (k : Int) < c.q ∧ oneB c who x = true ∧ (0 < k → rqOld (rqAt l (k - 1)) x = true) := by
 by_cases h1 : x.m < 1 ∨ 1099511627776 < x.m
 · rw [fault_two h1]
   constructor
   · intro h; cases h
   · rintro ⟨_, h2, _⟩
     have := oneB_iff.1 h2
     unfold oneOk at this
     omega
 · by_cases h2 : c.q ≤ (k : Int)
   · rw [fault_three h1 h2]
     constructor
     · intro h; cases h
     · rintro ⟨h, _⟩; omega
   · by_cases h3 : mayB x.t x.a c.n = true ∧ x.a = who
     · rw [fault_last h1 (by omega) h3]
       have ho : oneB c who x = true := by unfold oneB; rw [h3.1]; simp; omega
       by_cases h4 : 0 < k ∧ rqOld (rqAt l (k - 1)) x = false
       · rw [if_pos h4]
         constructor
         · intro h; cases h
         · rintro ⟨_, _, h⟩; rw [h h4.1] at h4; cases h4.2
       · rw [if_neg h4]
         refine ⟨fun _ => ⟨by omega, ho, fun h => ?_⟩, fun _ => rfl⟩
         cases h5 : rqOld (rqAt l (k - 1)) x with
         | true => rfl
         | false => exact absurd ⟨h, h5⟩ h4
     · rw [fault_one h1 (by omega) h3]
       constructor
       · intro h; cases h
       · rintro ⟨_, h, _⟩
         have := oneB_iff.1 h
         unfold oneOk at this
         exact absurd ⟨mayB_yes (by omega), this.2.1⟩ h3
theorem lineB_faults {c : Cf} {who : Int} {l : List Rq} (h1 : cfB c = true) (h2 : 0 ≤ who ∧ who < c.n) (h3 : ∀ i, i < l.length → faultV c who l i (rqAt l i) = 0) : lineB c who l = true := by
 refine lineB_yes ⟨cfB_ok h1, h2, ?_, fun i hi => (fault_zero.1 (h3 i hi)).2⟩
 have hc := cfB_ok h1
 unfold cfOk at hc
 by_cases h0 : l.length = 0
 · omega
 · have := (fault_zero.1 (h3 (l.length - 1) (by omega))).1
   omega
theorem lineB_fault {c : Cf} {who : Int} {l : List Rq} {i : Nat} (hi : i < l.length) (h : faultV c who l i (rqAt l i) ≠ 0) : lineB c who l = false := lineB_no fun h2 => h (by
 obtain ⟨_, _, h3, h4⟩ := h2
 exact fault_zero.2 ⟨by omega, h4 i hi⟩)
theorem lineB_false' {c : Cf} {who : Int} {l : List Rq} {b : Bool} (hb : lineB c who l = b) (h : ¬ lineOk c who l) : b = false := hb.symm.trans (lineB_no h)
set_option maxRecDepth 100000 in
set_option maxHeartbeats 8000000 in
theorem lMay_wide (c : Cf) (who : Int) (a : Option Addr) (m cp : Nat) (l : List Rq) (hm : m = l.length) (hsmall : m ≤ 9223372036854775807) (w : World) (hB : Line w (.slice a m cp) l) :
 Calls Try.prog 44 #[cfV c, .int .i64 who, .slice a m cp] w (Says w (lineB c who l)) := by
 have HW := Lib.hid (Whole.made w 23 (cfCells c))
 have Hb0 := Lib.hid (below_box w (.cells (cfCells c) 23))
 have HB := Lib.hid hB; clear hB
 have Hm := Lib.hid hm; clear hm
 obtain ⟨n, q, r, p, kk, cc⟩ := c
 obtain ⟨res, Hres⟩ : ∃ z, Hid (lineB ⟨n, q, r, p, kk, cc⟩ who l = z) := ⟨_, rfl⟩
 rw [Hres.out]
 obtain ⟨ok, Hok⟩ : ∃ z, Hid (cfB ⟨n, q, r, p, kk, cc⟩ = z) := ⟨_, rfl⟩
 go_enter Try.func44, Try.ntmps44
 go_wp2_with fail
 refine (rMay_calls ⟨n, q, r, p, kk, cc⟩ _).mono ?_
 rintro e w1 ⟨rfl, hb⟩
 rw [Hok.out]
 have Hb1 := Lib.hid (held_next Hb0.out hb)
 have HW1 := Lib.hid (HW.out.later hb HW.out.lt)
 clear hb
 obtain ⟨d0, d1, d2, d3, d4, d5⟩ := config_cells HW1.out
 simp only at d0 d1 d2 d3 d4 d5
 cases ok with
 | false =>
   obtain rfl : res = false := lineB_false' Hres.out fun h => by
    have := cfB_yes h.1
    rw [Hok.out] at this
    cases this
   go_wp2_with fail
   go_ret
   exact ⟨rfl, Hb1.out⟩
 | true =>
   by_cases h1 : who < 0
   · obtain rfl : res = false := lineB_false' Hres.out fun h => by have := h.2.1.1; omega
     go_wp2_with fail
     go_ret
     exact ⟨by rfl, Hb1.out⟩
   by_cases h2 : n ≤ who
   · obtain rfl : res = false := lineB_false' Hres.out fun h => by have : who < n := h.2.1.2; omega
     go_wp2_with fail
     go_ret
     exact ⟨by rfl, Hb1.out⟩
   have Hwho : Hid (0 ≤ who ∧ who < n) := by show _ ∧ _; omega
   go_wp2_with fail
   refine (faults_calls ⟨n, q, r, p, kk, cc⟩ who a m cp _).mono ?_
   rintro e w2 ⟨v, rfl, hC, hb⟩
   have Hb2 := Lib.hid (held_next Hb1.out hb)
   have HC := Lib.hid hC
   clear hb hC d0 d1 d2 d3 d4 d5
   obtain ⟨bc, bw, bl, rfl, q1, q2, q3⟩ := HC.out
   have Q1 := Lib.hid q1; clear q1
   have Q2 := Lib.hid q2; clear q2
   have Q3 := Lib.hid q3; clear q3
   go_wp2_with fail
   go_loopw [29] (fun s wr => ∃ k : Nat, k ≤ m ∧ s = .int .i64 k ∧ Hid (∀ i, i < k → faultV ⟨n, q, r, p, kk, cc⟩ who l i (rqAt l i) = 0) ∧ Hid (Below w2.heap.size w2 wr)) (fun s _ => m - (intOf s).toNat)
   case atStart => exact ⟨0, Nat.zero_le _, rfl, fun z hz => absurd hz (Nat.not_lt_zero _), Below.refl _ _⟩
   case round =>
    obtain ⟨k, hk, rfl, Hl, Hb⟩ := hrel
    by_cases hlt : k < m
    · obtain ⟨b, off, rfl, c0, c1, c2⟩ := (HB.out.later (held_next Hb2.out Hb.out)).at (i := k) (by have := Hm.out; omega)
      obtain ⟨x, Hx⟩ : ∃ z, Hid (rqAt l k = z) := ⟨_, rfl⟩
      rw [Hx.out] at c0 c1 c2
      obtain ⟨f, Hf⟩ : ∃ z, Hid (faultV ⟨n, q, r, p, kk, cc⟩ who l k x = z) := ⟨_, rfl⟩
      have k0 : (0 : Int) ≤ (k : Int) := by omega
      have k1 : (k : Int) < (m : Int) := by omega
      have Hbx := Lib.hid (held_next (below_next Hb.out Hb.out.size (below_box wr (.cells (rqCells x) 68))) (Below.refl _ _))
      have HX := Lib.hid (Whole.made wr 68 (rqCells x))
      obtain ⟨f0, f1, f2⟩ := rq_cells HX.out
      obtain ⟨t, u, v⟩ := x
      simp only at c0 c1 c2 f0 f1 f2
      go_wp2_with fail
      refine (fault_calls ⟨n, q, r, p, kk, cc⟩ who _ m cp l k ⟨t, u, v⟩ Hm.out hk bc bw bl _ (HB.out.later (held_next Hb2.out Hbx.out)) (Q1.out.later Hbx.out Q1.out.lt) (cell_later Hbx.out Q2.out) (cell_later Hbx.out Q3.out)).mono ?_
      rw [Hf.out]
      rintro e w3 ⟨rfl, hb⟩
      have Hb3 := Lib.hid (held_next Hbx.out hb)
      clear hb c0 c1 c2 f0 f1 f2
      by_cases hf : f = 0
      · subst hf
        go_wp2_with fail
        go_roundw
        case rel => exact ⟨k + 1, by omega, by go_num, (fun z hz => by
         by_cases e : z = k
         · subst e; rw [Hx.out]; exact Hf.out
         · exact Hl.out z (by omega)), Hb3.out⟩
        case measure => simp [intOf]; omega
      · obtain rfl : res = false := Hres.out.symm.trans (lineB_fault (i := k) (by have := Hm.out; omega) (by rw [Hx.out, Hf.out]; exact hf))
        have hfn : (f != 0) = true := bne_iff_ne.2 hf
        go_wp2_with fail
        go_ret
        exact ⟨by rfl, held_next Hb2.out Hb3.out⟩
    · obtain rfl : res = true := Hres.out.symm.trans (lineB_faults Hok.out Hwho.out fun i hi => Hl.out i (by have := Hm.out; omega))
      go_wp2_with fail
      go_ret
      exact ⟨by rfl, held_next Hb2.out Hb.out⟩
end Go.Proofs.Ytnkgakhnlbifdaa
namespace Go.Proofs.Ytnkgakhnlbifdaa
open Go.RowKit
set_option maxRecDepth 100000 in
set_option maxHeartbeats 8000000 in
theorem head_calls (c : Cf) (who : Int) (x : Nt) (w : World) : Calls Try.prog 69 #[tdV c who x] w (Says w (headB c who x)) := by
 have HX := Lib.hid ((Whole.made w 90 (tdCells c who x)).alloc (.cells (rqCells ⟨x.t, x.a, x.m⟩) 68))
 have HQ := Lib.hid (Whole.made2 w (.cells (tdCells c who x) 90) 68 (rqCells ⟨x.t, x.a, x.m⟩))
 have Hb0 := Lib.hid (below_two w (.cells (tdCells c who x) 90) (.cells (rqCells ⟨x.t, x.a, x.m⟩) 68))
 obtain ⟨n, q, r, p, kk, cc⟩ := c
 obtain ⟨clk, t, a, m, asks, try_, ph⟩ := x
 obtain ⟨z0, Hz0⟩ : ∃ z, Hid (decide (t = 0 ∧ a = 0 ∧ m = 0) = z) := ⟨_, rfl⟩
 obtain ⟨mv, Hmv⟩ : ∃ z, Hid (mayB t a n = z) := ⟨_, rfl⟩
 obtain ⟨res, Hres⟩ : ∃ z, Hid (headB ⟨n, q, r, p, kk, cc⟩ who ⟨clk, t, a, m, asks, try_, ph⟩ = z) := ⟨_, rfl⟩
 have hres : res = (z0 || (mv && decide (a = who ∧ 0 < m ∧ m ≤ 1099511627776))) := by
  rw [← Hres.out, ← Hz0.out, ← Hmv.out]; rfl
 rw [Hres.out]
 try simp only at HX HQ Hb0
 go_enter Try.func69, Try.ntmps69
 go_wp2_with fail
 refine (none_calls t a m _).mono ?_
 rw [Hz0.out]
 rintro e w1 ⟨rfl, hb⟩
 have HX1 := Lib.hid (HX.out.later hb HX.out.lt)
 have HQ1 := Lib.hid (HQ.out.later hb HQ.out.lt)
 have Hb1 := Lib.hid (held_next Hb0.out hb)
 clear hb HX HQ Hb0
 cases z0 with
 | true =>
   obtain rfl : res = true := hres
   go_wp2_with fail
   go_ret
   exact ⟨by rfl, Hb1.out⟩
 | false =>
 rw [Bool.false_or] at hres
 have Hr := Lib.hid hres; clear hres
 obtain ⟨e0, e1, e2, e3, e4, e5, e6, e7, e8, e9, e10, e11, e12, e13⟩ := td_cells HX1.out
 obtain ⟨f0, f1, f2⟩ := rq_cells HQ1.out
 simp only at e0 e1 e2 e3 e4 e5 e6 e7 e8 e9 e10 e11 e12 e13 f0 f1 f2
 go_wp2_with fail
 refine (stampmay_calls t a n _).mono ?_
 rw [Hmv.out]
 rintro e w2 ⟨rfl, hb⟩
 have HX2 := Lib.hid (HX1.out.later hb HX1.out.lt)
 have HQ2 := Lib.hid (HQ1.out.later hb HQ1.out.lt)
 have Hb2 := Lib.hid (held_next Hb1.out hb)
 clear hb HX1 HQ1 Hb1 e0 e1 e2 e3 e4 e5 e6 e7 e8 e9 e10 e11 e12 e13 f0 f1 f2
 obtain ⟨e0, e1, e2, e3, e4, e5, e6, e7, e8, e9, e10, e11, e12, e13⟩ := td_cells HX2.out
 obtain ⟨f0, f1, f2⟩ := rq_cells HQ2.out
 simp only at e0 e1 e2 e3 e4 e5 e6 e7 e8 e9 e10 e11 e12 e13 f0 f1 f2
 have hr := Hr.out
 cases mv with
 | false =>
   obtain rfl : res = false := hr
   go_wp2_with fail
   go_ret
   exact ⟨by rfl, Hb2.out⟩
 | true =>
 rw [Bool.true_and] at hr
 by_cases h1 : a = who
 · by_cases h2 : 1 ≤ m
   · by_cases h3 : m ≤ 1099511627776
     · rw [decide_eq_true ⟨h1, by omega, h3⟩] at hr
       subst hr h1
       go_wp2_with fail
       go_ret
       exact ⟨by first | rfl | (simp; done) | (simp; omega), Hb2.out⟩
     · rw [decide_eq_false (fun h => h3 h.2.2)] at hr
       subst hr h1
       go_wp2_with fail
       go_ret
       exact ⟨by first | rfl | (simp; done) | (simp; omega), Hb2.out⟩
   · rw [decide_eq_false (fun h => h2 (by omega))] at hr
     subst hr h1
     go_wp2_with fail
     go_ret
     exact ⟨by first | rfl | (simp; done) | (simp; omega), Hb2.out⟩
 · rw [decide_eq_false (fun h => h1 h.1)] at hr
   subst hr
   have h1' : (a == who) = false := beq_eq_false_iff_ne.2 h1
   clear h1
   go_wp2_with fail
   go_ret
   exact ⟨by rfl, Hb2.out⟩
set_option maxRecDepth 100000 in
set_option maxHeartbeats 8000000 in
theorem fits_calls (c : Cf) (who : Int) (x : Nt) (w : World) : Calls Try.prog 40 #[tdV c who x] w (Says w (noteB c who x)) := by
 have HX := Lib.hid (Whole.made w 90 (tdCells c who x))
 have Hb0 := Lib.hid (below_box w (.cells (tdCells c who x) 90))
 have hC1 := fun w => clock_calls c who x w
 have hC2 := fun w => head_calls c who x w
 have hC3 := fun w => asks_calls c who x w
 have hC4 := fun w => look_calls c who x w
 obtain ⟨z1, Hz1⟩ : ∃ z, Hid (clockB x = z) := ⟨_, rfl⟩
 obtain ⟨z2, Hz2⟩ : ∃ z, Hid (headB c who x = z) := ⟨_, rfl⟩
 obtain ⟨z3, Hz3⟩ : ∃ z, Hid (asksB c x = z) := ⟨_, rfl⟩
 obtain ⟨z4, Hz4⟩ : ∃ z, Hid (lookB x.try_ x.ph = z) := ⟨_, rfl⟩
 obtain ⟨res, Hres⟩ : ∃ z, Hid (noteB c who x = z) := ⟨_, rfl⟩
 have hres : res = (z1 && (z2 && (z3 && z4))) := by
  rw [← Hres.out, ← Hz1.out, ← Hz2.out, ← Hz3.out, ← Hz4.out]; exact noteB_parts c who x
 rw [Hz1.out] at hC1
 rw [Hz2.out] at hC2
 rw [Hz3.out] at hC3
 rw [Hz4.out] at hC4
 rw [Hres.out]
 have HC1 := Lib.hid hC1; have HC2 := Lib.hid hC2; have HC3 := Lib.hid hC3; have HC4 := Lib.hid hC4
 have Hr := Lib.hid hres
 clear hC1 hC2 hC3 hC4 hres Hz1 Hz2 Hz3 Hz4 Hres
 obtain ⟨n, q, r, p, kk, cc⟩ := c
 obtain ⟨clk, t, a, m, asks, try_, ph⟩ := x
 try simp only at HX Hb0
 have HX0 := Lib.hid (HX.out.alloc (.cells #[.func (.func 68) #[] #[], .func (.func 69) #[] #[], .func (.func 70) #[] #[], .func (.func 71) #[] #[]] 88))
 have HS0 := Lib.hid (Whole.made2 w (.cells (tdCells ⟨n, q, r, p, kk, cc⟩ who ⟨clk, t, a, m, asks, try_, ph⟩) 90) 88 #[.func (.func 68) #[] #[], .func (.func 69) #[] #[], .func (.func 70) #[] #[], .func (.func 71) #[] #[]])
 have Hb9 := Lib.hid (below_two w (.cells (tdCells ⟨n, q, r, p, kk, cc⟩ who ⟨clk, t, a, m, asks, try_, ph⟩) 90) (.cells #[.func (.func 68) #[] #[], .func (.func 69) #[] #[], .func (.func 70) #[] #[], .func (.func 71) #[] #[]] 88))
 clear HX Hb0
 obtain ⟨e0, e1, e2, e3, e4, e5, e6, e7, e8, e9, e10, e11, e12, e13⟩ := td_cells HX0.out
 simp only at e0 e1 e2 e3 e4 e5 e6 e7 e8 e9 e10 e11 e12 e13
 have g0 := HS0.out.cell 0; have g1 := HS0.out.cell 1; have g2 := HS0.out.cell 2; have g3 := HS0.out.cell 3
 simp at g0 g1 g2 g3
 go_enter Try.func40, Try.ntmps40
 go_wp2_with fail
 refine wp_loop_rounds 5 ?_
 rw [rounds_succ]
 go_wp2_with fail
 refine (HC1.out _).mono ?_
 rintro e w1 ⟨rfl, hb⟩
 have HX1 := Lib.hid (HX0.out.later hb HX0.out.lt)
 have HS1 := Lib.hid (HS0.out.later hb HS0.out.lt)
 have Hb1 := Lib.hid (held_next Hb9.out hb)
 clear hb e0 e1 e2 e3 e4 e5 e6 e7 e8 e9 e10 e11 e12 e13 g0 g1 g2 g3
 obtain ⟨e0, e1, e2, e3, e4, e5, e6, e7, e8, e9, e10, e11, e12, e13⟩ := td_cells HX1.out
 simp only at e0 e1 e2 e3 e4 e5 e6 e7 e8 e9 e10 e11 e12 e13
 have g0 := HS1.out.cell 0; have g1 := HS1.out.cell 1; have g2 := HS1.out.cell 2; have g3 := HS1.out.cell 3
 simp at g0 g1 g2 g3
 have hr := Hr.out
 clear Hr
 cases z1 with
 | false =>
   obtain rfl : res = false := hr
   go_wp2_with fail
   go_ret
   exact ⟨by rfl, Hb1.out⟩
 | true =>
 rw [Bool.true_and] at hr
 have Hr := Lib.hid hr; clear hr
 go_wp2_with fail
 rw [rounds_succ]
 go_wp2_with fail
 refine (HC2.out _).mono ?_
 rintro e w2 ⟨rfl, hb⟩
 have HX2 := Lib.hid (HX1.out.later hb HX1.out.lt)
 have HS2 := Lib.hid (HS1.out.later hb HS1.out.lt)
 have Hb2 := Lib.hid (held_next Hb1.out hb)
 clear hb e0 e1 e2 e3 e4 e5 e6 e7 e8 e9 e10 e11 e12 e13 g0 g1 g2 g3
 obtain ⟨e0, e1, e2, e3, e4, e5, e6, e7, e8, e9, e10, e11, e12, e13⟩ := td_cells HX2.out
 simp only at e0 e1 e2 e3 e4 e5 e6 e7 e8 e9 e10 e11 e12 e13
 have g0 := HS2.out.cell 0; have g1 := HS2.out.cell 1; have g2 := HS2.out.cell 2; have g3 := HS2.out.cell 3
 simp at g0 g1 g2 g3
 have hr := Hr.out
 clear Hr
 cases z2 with
 | false =>
   obtain rfl : res = false := hr
   go_wp2_with fail
   go_ret
   exact ⟨by rfl, Hb2.out⟩
 | true =>
 rw [Bool.true_and] at hr
 have Hr := Lib.hid hr; clear hr
 go_wp2_with fail
 rw [rounds_succ]
 go_wp2_with fail
 refine (HC3.out _).mono ?_
 rintro e w3 ⟨rfl, hb⟩
 have HX3 := Lib.hid (HX2.out.later hb HX2.out.lt)
 have HS3 := Lib.hid (HS2.out.later hb HS2.out.lt)
 have Hb3 := Lib.hid (held_next Hb2.out hb)
 clear hb e0 e1 e2 e3 e4 e5 e6 e7 e8 e9 e10 e11 e12 e13 g0 g1 g2 g3
 obtain ⟨e0, e1, e2, e3, e4, e5, e6, e7, e8, e9, e10, e11, e12, e13⟩ := td_cells HX3.out
 simp only at e0 e1 e2 e3 e4 e5 e6 e7 e8 e9 e10 e11 e12 e13
 have g0 := HS3.out.cell 0; have g1 := HS3.out.cell 1; have g2 := HS3.out.cell 2; have g3 := HS3.out.cell 3
 simp at g0 g1 g2 g3
 have hr := Hr.out
 clear Hr
 cases z3 with
 | false =>
   obtain rfl : res = false := hr
   go_wp2_with fail
   go_ret
   exact ⟨by rfl, Hb3.out⟩
 | true =>
 rw [Bool.true_and] at hr
 have Hr := Lib.hid hr; clear hr
 go_wp2_with fail
 rw [rounds_succ]
 go_wp2_with fail
 refine (HC4.out _).mono ?_
 rintro e w4 ⟨rfl, hb⟩
 have HX4 := Lib.hid (HX3.out.later hb HX3.out.lt)
 have HS4 := Lib.hid (HS3.out.later hb HS3.out.lt)
 have Hb4 := Lib.hid (held_next Hb3.out hb)
 clear hb e0 e1 e2 e3 e4 e5 e6 e7 e8 e9 e10 e11 e12 e13 g0 g1 g2 g3
 obtain ⟨e0, e1, e2, e3, e4, e5, e6, e7, e8, e9, e10, e11, e12, e13⟩ := td_cells HX4.out
 simp only at e0 e1 e2 e3 e4 e5 e6 e7 e8 e9 e10 e11 e12 e13
 have g0 := HS4.out.cell 0; have g1 := HS4.out.cell 1; have g2 := HS4.out.cell 2; have g3 := HS4.out.cell 3
 simp at g0 g1 g2 g3
 have hr := Hr.out
 clear Hr
 cases z4 with
 | false =>
   obtain rfl : res = false := hr
   go_wp2_with fail
   go_ret
   exact ⟨by rfl, Hb4.out⟩
 | true =>
 obtain rfl : res = true := hr
 go_wp2_with fail
 rw [rounds_succ]
 go_wp2_with fail
 go_ret
 exact ⟨by rfl, Hb4.out⟩
end Go.Proofs.Ytnkgakhnlbifdaa
namespace Go.Proofs.Ytnkgakhnlbifdaa
open Go.RowKit
theorem nt_small {l : List Nt} {m : Nat} (hm : m = l.length) {who : Int} (h1 : 0 ≤ who) (h2 : who < (m : Int)) : who.toNat < l.length := by omega
set_option maxRecDepth 100000 in
set_option maxHeartbeats 8000000 in
theorem cMay_wide (c : Cf) (who : Int) (a : Option Addr) (m cp : Nat) (l : List Nt) (hm : m = l.length) (hs : m ≤ 9223372036854775807) (w : World) (hB : Notes w (.slice a m cp) l) :
 Calls Try.prog 21 #[cfV c, .int .i64 who, .slice a m cp] w (Says w (notesB c who l)) := by
 have HW := Lib.hid (Whole.made w 23 (cfCells c))
 have Hb0 := Lib.hid (below_box w (.cells (cfCells c) 23))
 have HB := Lib.hid hB; clear hB
 have Hm := Lib.hid hm; clear hm
 obtain ⟨n, q, r, p, kk, cc⟩ := c
 obtain ⟨res, Hres⟩ : ∃ z, Hid (notesB ⟨n, q, r, p, kk, cc⟩ who l = z) := ⟨_, rfl⟩
 have no : ¬ notesOk ⟨n, q, r, p, kk, cc⟩ who l → res = false := fun h => Hres.out.symm.trans (notesB_no h)
 have No := Lib.hid no; clear no
 rw [Hres.out]
 obtain ⟨ok, Hok⟩ : ∃ z, Hid (cfB ⟨n, q, r, p, kk, cc⟩ = z) := ⟨_, rfl⟩
 obtain ⟨amo, Hamo⟩ : ∃ z, Hid (decide (0 ≤ who ∧ who < n) = z) := ⟨_, rfl⟩
 go_enter Try.func21, Try.ntmps21
 go_wp2_with fail
 refine (rMay_calls ⟨n, q, r, p, kk, cc⟩ _).mono ?_
 rintro e w1 ⟨rfl, hb⟩
 rw [Hok.out]
 have Hb1 := Lib.hid (held_next Hb0.out hb)
 have HW1 := Lib.hid (HW.out.later hb HW.out.lt)
 clear hb HW Hb0
 obtain ⟨d0, d1, d2, d3, d4, d5⟩ := config_cells HW1.out
 simp only at d0 d1 d2 d3 d4 d5
 cases ok with
 | false =>
   obtain rfl : res = false := No.out fun h => by
    have := cfB_yes h.1
    rw [Hok.out] at this
    cases this
   go_wp2_with fail
   go_ret
   exact ⟨by rfl, Hb1.out⟩
 | true =>
 go_wp2_with fail
 refine (amongc_calls ⟨n, q, r, p, kk, cc⟩ who _).mono ?_
 rintro e w2 ⟨rfl, hb⟩
 rw [show decide (0 ≤ who ∧ who < (Cf.mk n q r p kk cc).n) = amo from Hamo.out]
 have Hb2 := Lib.hid (held_next Hb1.out hb)
 have HW2 := Lib.hid (HW1.out.later hb HW1.out.lt)
 clear hb HW1 Hb1 d0 d1 d2 d3 d4 d5
 obtain ⟨d0, d1, d2, d3, d4, d5⟩ := config_cells HW2.out
 simp only at d0 d1 d2 d3 d4 d5
 cases amo with
 | false =>
   obtain rfl : res = false := No.out fun h => (of_decide_eq_false Hamo.out) h.2.1
   go_wp2_with fail
   go_ret
   exact ⟨by rfl, Hb2.out⟩
 | true =>
 have Hwho := Lib.hid (of_decide_eq_true Hamo.out)
 by_cases h3 : (m : Int) = n
 rotate_left 1
 · obtain rfl : res = false := No.out fun h => h3 (by have := h.2.2.1; rw [Hm.out]; exact this)
   have h3' : ((m : Int) != n) = true := bne_iff_ne.2 h3
   clear h3
   go_wp2_with fail
   go_ret
   exact ⟨by rfl, Hb2.out⟩
 have hok := cfB_ok Hok.out
 have hn16 : n ≤ 16 := hok.2.1
 subst h3
 have hw1 : 0 ≤ who := Hwho.out.1
 have hw2 : who < (m : Int) := Hwho.out.2
 obtain ⟨b, off, rfl, hN⟩ := HB.out.at (i := who.toNat) (nt_small Hm.out hw1 hw2)
 obtain ⟨y, Hy⟩ : ∃ z, Hid (ntAt l who.toNat = z) := ⟨_, rfl⟩
 rw [Hy.out] at hN
 have HN := Lib.hid (NtIn.later hN Hb2.out); clear hN hok
 obtain ⟨z, Hz⟩ : ∃ z, Hid ((!decide (y = nt0)) = z) := ⟨_, rfl⟩
 obtain ⟨y0, y1, y2, y3, y4, y5, y6⟩ := y
 obtain ⟨e0, e1, e2, e3, e4, e5, e6⟩ := HN.out
 simp only at e0 e1 e2 e3 e4 e5 e6
 have heq : ∀ w : World, (binOp .neq 70 (.agg #[.int .i64 y0, .int .i64 y1, .int .i64 y2, .int .i64 y3, .int .i64 y4, .int .i64 y5, .int .i64 y6]) (.agg #[.int .i64 0, .int .i64 0, .int .i64 0, .int .i64 0, .int .i64 0, .int .i64 0, .int .i64 0])).run Try.prog w = .ok (.bool z) w := fun w => (run_neq_nt w ⟨y0, y1, y2, y3, y4, y5, y6⟩ nt0).trans (by rw [← Hz.out])
 cases z with
 | true =>
   obtain rfl : res = false := No.out fun h => by
    have h9 := (h.2.2.2 who.toNat (nt_small Hm.out hw1 hw2)).2 (Int.toNat_of_nonneg hw1)
    rw [Hy.out] at h9
    have := Hz.out
    rw [h9] at this
    simp at this
   go_wp2_with fail
   go_ret
   exact ⟨by rfl, Hb2.out⟩
 | false =>
 have Hown : Hid (∀ i : Nat, (i : Int) = who → ntAt l i = nt0) := fun i hi => by
  have e : who.toNat = i := by omega
  have h9 := Hy.out
  rw [e] at h9
  rw [h9]
  simpa using Hz.out
 go_wp2_with fail
 clear d0 d1 d2 d3 d4 d5 e0 e1 e2 e3 e4 e5 e6 heq HN
 go_loopw [35] (fun s7 wr => ∃ k : Nat, k ≤ m ∧ s7 = .int .i64 k ∧ Hid (∀ i, i < k → noteB ⟨m, q, r, p, kk, cc⟩ i (ntAt l i) = true) ∧ Hid (Below w.heap.size w wr) ∧ Hid (Whole wr w.heap.size 23 (cfCells ⟨m, q, r, p, kk, cc⟩))) (fun s7 _ => m - (intOf s7).toNat)
 case atStart => exact ⟨0, Nat.zero_le _, rfl, fun z hz => absurd hz (Nat.not_lt_zero _), Hb2.out, HW2.out⟩
 case round =>
  obtain ⟨k, hk, rfl, Hl, Hb, HWr⟩ := hrel
  obtain ⟨d0, d1, d2, d3, d4, d5⟩ := config_cells HWr.out
  simp only at d0 d1 d2 d3 d4 d5
  by_cases hlt : k < m
  · obtain ⟨b9, off9, hsame, hN⟩ := HB.out.at (i := k) (by have := Hm.out; omega)
    simp only [Option.some.injEq, Addr.mk.injEq] at hsame
    obtain ⟨rfl, rfl, _⟩ := hsame
    obtain ⟨x, Hx⟩ : ∃ z, Hid (ntAt l k = z) := ⟨_, rfl⟩
    rw [Hx.out] at hN
    obtain ⟨e0, e1, e2, e3, e4, e5, e6⟩ := NtIn.later hN Hb.out
    obtain ⟨v, Hv⟩ : ∃ z, Hid (noteB ⟨m, q, r, p, kk, cc⟩ k x = z) := ⟨_, rfl⟩
    clear hN
    have hbx := below_box wr (.cells (ntCells x) 70)
    have Hbx := Lib.hid (held_next Hb.out hbx)
    have HWx := Lib.hid (HWr.out.later hbx HWr.out.lt)
    have hwl := HWr.out.lt
    clear hbx
    obtain ⟨x0, x1, x2, x3, x4, x5, x6⟩ := x
    simp only at e0 e1 e2 e3 e4 e5 e6
    have k0 : (0 : Int) ≤ (k : Int) := by omega
    have k1 : (k : Int) < (m : Int) := by omega
    go_wp2_with fail
    refine (fits_calls ⟨m, q, r, p, kk, cc⟩ k ⟨x0, x1, x2, x3, x4, x5, x6⟩ _).mono ?_
    rw [Hv.out]
    rintro e w3 ⟨rfl, hb⟩
    have Hb3 := Lib.hid (held_next Hbx.out hb)
    have HW3 := Lib.hid (HWx.out.later hb HWx.out.lt)
    clear hb
    cases v with
    | false =>
      obtain rfl : res = false := No.out fun h => by
       have h9 := (h.2.2.2 k (by have := Hm.out; omega)).1
       rw [Hx.out, Hv.out] at h9
       cases h9
      go_wp2_with fail
      go_ret
      exact ⟨by rfl, Hb3.out⟩
    | true =>
      go_wp2_with fail
      go_roundw
      case rel => exact ⟨k + 1, by omega, by go_num, (fun z hz => by
       by_cases e : z = k
       · subst e; rw [Hx.out]; exact Hv.out
       · exact Hl.out z (by omega)), Hb3.out, HW3.out⟩
      case measure => simp [intOf]; omega
  · obtain rfl : res = true := Hres.out.symm.trans (decide_eq_true ⟨cfB_ok Hok.out, ⟨hw1, hw2⟩, by rw [← Hm.out], fun i hi => ⟨Hl.out i (by have := Hm.out; omega), Hown.out i⟩⟩)
    go_wp2_with fail
    go_ret
    exact ⟨by rfl, Hb.out⟩
end Go.Proofs.Ytnkgakhnlbifdaa
namespace Go.Proofs.Ytnkgakhnlbifdaa
open Go.RowKit
def KeptBk (w : World) (g : Nat) (c : Cf) (x : Bk) (p : Bl) (wx : World) : Prop := Below w.heap.size w wx ∧ Whole wx g 23 (cfCells c) ∧ Whole wx (g + 1) 36 (bkAtC x p)
theorem KeptBk.later {w : World} {g : Nat} {c : Cf} {x : Bk} {p : Bl} {wx wy : World} (h : KeptBk w g c x p wx) (hb : Below wx.heap.size wx wy) : KeptBk w g c x p wy := ⟨held_next h.1 hb, h.2.1.later hb h.2.1.lt, h.2.2.later hb h.2.2.lt⟩
def waitOk (c : Cf) (who : Int) (x : Bk) : Prop := lineOk c who x.line ∧ (0 ≤ x.asks ∧ x.asks ≤ c.r) ∧ (∀ i, i < x.line.length → (rqAt x.line i).t ≤ x.clk) ∧ (x.line = [] → x.asks = 0 ∧ x.au = au0)
instance (c : Cf) (who : Int) (x : Bk) : Decidable (waitOk c who x) := by unfold waitOk; exact inferInstance
def tellOk (c : Cf) (who : Int) (x : Bk) : Prop := (x.outs.length : Int) ≤ c.q + 1 ∧ ∀ i, i < x.outs.length → outB c who x.clk (rqAt x.outs i) = true
instance (c : Cf) (who : Int) (x : Bk) : Decidable (tellOk c who x) := by unfold tellOk; exact inferInstance
set_option maxRecDepth 100000 in
set_option maxHeartbeats 4000000 in
theorem knone_calls (x : Au) (p : Al) (w : World) (h1 : p.m1 = x.told.length) (h2 : p.m2 = x.use.length) (h3 : p.m3 = x.inc.length) (hb : p.m1 ≤ 9223372036854775807 ∧ p.m2 ≤ 9223372036854775807 ∧ p.m3 ≤ 9223372036854775807) :
 Calls Try.prog 30 #[auAt x p] w (Says w (noneA x)) := by
 have Hb0 := Lib.hid (below_box w (.cells (auCells x (.slice p.a1 p.m1 p.c1) (.slice p.a2 p.m2 p.c2) (.slice p.a3 p.m3 p.c3)) 34))
 obtain ⟨tr, ph, told, use, inc, moved⟩ := x
 obtain ⟨a1, m1, c1, a2, m2, c2, a3, m3, c3⟩ := p
 obtain ⟨hb1, hb2, hb3⟩ := hb
 simp only at h1 h2 h3 hb1 hb2 hb3
 obtain ⟨res, Hres⟩ : ∃ z, Hid (noneA ⟨tr, ph, told, use, inc, moved⟩ = z) := ⟨_, rfl⟩
 rw [Hres.out]
 obtain ⟨z, Hz⟩ : ∃ z, Hid (decide (tr = 0 ∧ ph = 0) = z) := ⟨_, rfl⟩
 have hr : res = (z && decide (m1 = 0 ∧ m2 = 0 ∧ m3 = 0 ∧ moved = false)) := by
  rw [← Hres.out, ← Hz.out, h1, h2, h3]
  unfold noneA
  simp only [Au.mk.injEq, List.length_eq_zero_iff, ← Bool.decide_and, and_assoc]
 have HR := Lib.hid hr
 clear hr h1 h2 h3
 have heq : ∀ w : World, (binOp .eql 30 (.agg #[.int .i64 tr, .int .i64 ph]) (.agg #[.int .i64 0, .int .i64 0])).run Try.prog w = .ok (.bool z) w := fun w => (run_eql_lk w tr ph 0 0).trans (by rw [← Hz.out])
 go_enter Try.func30, Try.ntmps30
 cases z with
 | false =>
   obtain rfl : res = false := by rw [HR.out]; rfl
   go_wp2_with fail
   go_ret
   exact ⟨by rfl, Hb0.out⟩
 | true =>
  by_cases k3 : m1 = 0
  · subst k3
    by_cases k4 : m2 = 0
    · subst k4
      by_cases k5 : m3 = 0
      · subst k5
        cases moved with
        | false =>
          obtain rfl : res = true := by rw [HR.out]; simp
          go_wp2_with fail
          go_ret
          exact ⟨by rfl, Hb0.out⟩
        | true =>
          obtain rfl : res = false := by rw [HR.out]; simp
          go_wp2_with fail
          go_ret
          exact ⟨by rfl, Hb0.out⟩
      · obtain rfl : res = false := by rw [HR.out]; simp [k5]
        have k5' : ((m3 : Int) == 0) = false := beq_eq_false_iff_ne.2 (by omega)
        clear k5
        go_wp2_with fail
        go_ret
        exact ⟨by rfl, Hb0.out⟩
    · obtain rfl : res = false := by rw [HR.out]; simp [k4]
      have k4' : ((m2 : Int) == 0) = false := beq_eq_false_iff_ne.2 (by omega)
      clear k4
      go_wp2_with fail
      go_ret
      exact ⟨by rfl, Hb0.out⟩
  · obtain rfl : res = false := by rw [HR.out]; simp [k3]
    have k3' : ((m1 : Int) == 0) = false := beq_eq_false_iff_ne.2 (by omega)
    clear k3
    go_wp2_with fail
    go_ret
    exact ⟨by rfl, Hb0.out⟩
set_option maxRecDepth 100000 in
set_option maxHeartbeats 4000000 in
theorem kamong_calls (c : Cf) (who : Int) (w : World) : Calls Try.prog 12 #[cfV c, .int .i64 who] w (Says w (amB c who)) := by
 have HW := Lib.hid (Whole.made w 23 (cfCells c))
 have Hb0 := Lib.hid (below_box w (.cells (cfCells c) 23))
 obtain ⟨n, q, r, p, kk, cc⟩ := c
 obtain ⟨ok, Hok⟩ : ∃ z, Hid (cfB ⟨n, q, r, p, kk, cc⟩ = z) := ⟨_, rfl⟩
 obtain ⟨res, Hres⟩ : ∃ z, Hid (amB ⟨n, q, r, p, kk, cc⟩ who = z) := ⟨_, rfl⟩
 have no : ¬ (cfOk ⟨n, q, r, p, kk, cc⟩ ∧ (0 ≤ who ∧ who < n)) → res = false := fun h => Hres.out.symm.trans (decide_eq_false h)
 have yes : (cfOk ⟨n, q, r, p, kk, cc⟩ ∧ (0 ≤ who ∧ who < n)) → res = true := fun h => Hres.out.symm.trans (decide_eq_true h)
 have No := Lib.hid no; have Yes := Lib.hid yes; clear no yes
 rw [Hres.out]
 go_enter Try.func12, Try.ntmps12
 go_wp2_with fail
 refine (rMay_calls ⟨n, q, r, p, kk, cc⟩ _).mono ?_
 rintro e w1 ⟨rfl, hb⟩
 rw [Hok.out]
 have Hb1 := Lib.hid (held_next Hb0.out hb)
 have HW1 := Lib.hid (HW.out.later hb HW.out.lt)
 clear hb HW Hb0
 obtain ⟨d0, d1, d2, d3, d4, d5⟩ := config_cells HW1.out
 simp only at d0 d1 d2 d3 d4 d5
 cases ok with
 | false =>
   obtain rfl : res = false := No.out fun h => by
    have := cfB_yes h.1
    rw [Hok.out] at this
    cases this
   go_wp2_with fail
   go_ret
   exact ⟨by rfl, Hb1.out⟩
 | true =>
   by_cases h1 : 0 ≤ who
   · by_cases h2 : who < n
     · obtain rfl : res = true := Yes.out ⟨cfB_ok Hok.out, h1, h2⟩
       go_wp2_with fail
       go_ret
       exact ⟨by first | rfl | (simp; done) | (simp; omega), Hb1.out⟩
     · obtain rfl : res = false := No.out fun h => h2 h.2.2
       go_wp2_with fail
       go_ret
       exact ⟨by first | rfl | (simp; done) | (simp; omega), Hb1.out⟩
   · obtain rfl : res = false := No.out fun h => h1 h.2.1
     go_wp2_with fail
     go_ret
     exact ⟨by first | rfl | (simp; done) | (simp; omega), Hb1.out⟩
set_option maxRecDepth 100000 in
set_option maxHeartbeats 4000000 in
theorem kBound_calls (c : Cf) (w : World) : Calls Try.prog 11 #[cfV c] w (fun e w' => e = .returned (.int .i64 (boundV c)) ∧ Below w.heap.size w w') := by
 have HW := Lib.hid (Whole.made w 23 (cfCells c))
 have Hb0 := Lib.hid (below_box w (.cells (cfCells c) 23))
 obtain ⟨n, q, r, p, kk, cc⟩ := c
 obtain ⟨ok, Hok⟩ : ∃ z, Hid (cfB ⟨n, q, r, p, kk, cc⟩ = z) := ⟨_, rfl⟩
 obtain ⟨res, Hres⟩ : ∃ z, Hid (boundV ⟨n, q, r, p, kk, cc⟩ = z) := ⟨_, rfl⟩
 rw [Hres.out]
 go_enter Try.func11, Try.ntmps11
 go_wp2_with fail
 refine (rMay_calls ⟨n, q, r, p, kk, cc⟩ _).mono ?_
 rintro e w1 ⟨rfl, hb⟩
 rw [Hok.out]
 have Hb1 := Lib.hid (held_next Hb0.out hb)
 have HW1 := Lib.hid (HW.out.later hb HW.out.lt)
 clear hb HW Hb0
 obtain ⟨d0, d1, d2, d3, d4, d5⟩ := config_cells HW1.out
 simp only at d0 d1 d2 d3 d4 d5
 cases ok with
 | false =>
   obtain rfl : res = 0 := Hres.out.symm.trans (if_neg fun h => by
    have := cfB_yes h
    rw [Hok.out] at this
    cases this)
   go_wp2_with fail
   go_ret
   exact ⟨by rfl, Hb1.out⟩
 | true =>
   have hc := cfB_ok Hok.out
   have hr : res = 16 * (n * (n + 12) + 6 * q + 20) := Hres.out.symm.trans (if_pos hc)
   have h1 : 1 ≤ n ∧ n ≤ 16 ∧ 1 ≤ q ∧ q ≤ 8 := by unfold cfOk at hc; simp only at hc; omega
   have hm : 0 ≤ n * (n + 12) ∧ n * (n + 12) ≤ 448 := by
    obtain ⟨k1, k2, _⟩ := h1
    have : n = 1 ∨ n = 2 ∨ n = 3 ∨ n = 4 ∨ n = 5 ∨ n = 6 ∨ n = 7 ∨ n = 8 ∨ n = 9 ∨ n = 10 ∨ n = 11 ∨ n = 12 ∨ n = 13 ∨ n = 14 ∨ n = 15 ∨ n = 16 := by omega
    rcases this with h | h | h | h | h | h | h | h | h | h | h | h | h | h | h | h <;> subst h <;> decide
   obtain ⟨M, HM⟩ : ∃ z, Hid (n * (n + 12) = z) := ⟨_, rfl⟩
   rw [HM.out] at hr hm
   have v1 : IntKind.i64.wrap (n + 12) = n + 12 := IntWalk.i64_in _ (by omega)
   have v2 : IntKind.i64.wrap (n * (n + 12)) = M := by rw [HM.out]; exact IntWalk.i64_in _ (by omega)
   have v3 : IntKind.i64.wrap (6 * q) = 6 * q := IntWalk.i64_in _ (by omega)
   have v4 : IntKind.i64.wrap (M + 6 * q) = M + 6 * q := IntWalk.i64_in _ (by omega)
   have v5 : IntKind.i64.wrap (M + 6 * q + 20) = M + 6 * q + 20 := IntWalk.i64_in _ (by omega)
   have v6 : IntKind.i64.wrap (16 * (M + 6 * q + 20)) = 16 * (M + 6 * q + 20) := IntWalk.i64_in _ (by omega)
   have Hr := Lib.hid hr
   clear hr hc hm
   go_wp2_with fail
   go_ret
   exact ⟨by rw [Hr.out]; rfl, Hb1.out⟩
set_option maxRecDepth 100000 in
set_option maxHeartbeats 16000000 in
theorem kmayWait_calls (c : Cf) (who : Int) (x : Bk) (p : Bl) (w : World) (hK : BkIn w p x) :
 Calls Try.prog 23 #[cfV c, .int .i64 who, bkAt x p] w (Says w (decide (waitOk c who x))) := by
 have HK : Hid (KeptBk w w.heap.size c x p ((w.alloc (.cells (cfCells c) 23)).alloc (.cells (bkAtC x p) 36))) :=
  ⟨below_two w _ _, (Whole.made w _ _).alloc _, Whole.made2 w _ _ _⟩
 obtain ⟨⟨hm1, hB1⟩, ⟨hm2, hB2⟩, ⟨hm3, hB3⟩, ⟨hm4, hB4⟩, hA⟩ := hK
 have b2 : p.m2 ≤ 9223372036854775807 := by rw [hm2]; exact hB2.1
 have b3 : p.m3 ≤ 9223372036854775807 := by rw [hm3]; exact hB3.1
 have b4 : p.m4 ≤ 9223372036854775807 := by rw [hm4]; exact hB4.1
 have ba : p.al.m1 ≤ 9223372036854775807 ∧ p.al.m2 ≤ 9223372036854775807 ∧ p.al.m3 ≤ 9223372036854775807 := ⟨by rw [hA.1.1]; exact hA.1.2.1, by rw [hA.2.1.1]; exact hA.2.1.2.1, by rw [hA.2.2.1]; exact hA.2.2.2.1⟩
 obtain ⟨n, q, r, pp, kk, cc⟩ := c
 obtain ⟨clk, rows, line, outs, asks, notes, ⟨tr, ph, told, use, inc, moved⟩⟩ := x
 obtain ⟨a1, m1, c1, a2, m2, c2, a3, m3, c3, a4, m4, c4, ⟨a5, m5, c5, a6, m6, c6, a7, m7, c7⟩⟩ := p
 simp only at hm1 hB1 hm2 hB2 hm3 hB3 hm4 hB4 b2 b3 b4 ba
 have HB1 := Lib.hid hB1; clear hB1
 have HB2 := Lib.hid hB2; clear hB2
 have HB3 := Lib.hid hB3; clear hB3
 have HB4 := Lib.hid hB4; clear hB4
 have HA := Lib.hid hA; clear hA
 have HBa := Lib.hid ba; clear ba
 have Hm1 := Lib.hid hm1; clear hm1
 have Hm2 := Lib.hid hm2; clear hm2
 have Hm3 := Lib.hid hm3; clear hm3
 have Hm4 := Lib.hid hm4; clear hm4
 obtain ⟨res, Hres⟩ : ∃ z, Hid (decide (waitOk ⟨n, q, r, pp, kk, cc⟩ who ⟨clk, rows, line, outs, asks, notes, ⟨tr, ph, told, use, inc, moved⟩⟩) = z) := ⟨_, rfl⟩
 have no : ¬ waitOk ⟨n, q, r, pp, kk, cc⟩ who ⟨clk, rows, line, outs, asks, notes, ⟨tr, ph, told, use, inc, moved⟩⟩ → res = false := fun h => Hres.out.symm.trans (decide_eq_false h)
 have No := Lib.hid no; clear no
 rw [Hres.out]
 obtain ⟨lv, Hlv⟩ : ∃ z, Hid (lineB ⟨n, q, r, pp, kk, cc⟩ who line = z) := ⟨_, rfl⟩
 go_enter Try.func23, Try.ntmps23
 obtain ⟨d0, d1, d2, d3, d4, d5⟩ := config_cells HK.out.2.1
 obtain ⟨⟨e0, e1, e2, e3⟩, ⟨e4, e5, e6, e7⟩, e8, e9, e10, e11⟩ := bk_cells HK.out.2.2
 simp only at d0 d1 d2 d3 d4 d5 e0 e1 e2 e3 e4 e5 e6 e7 e8 e9 e10 e11
 go_wp2_with fail
 refine (lMay_wide ⟨n, q, r, pp, kk, cc⟩ who a2 m2 c2 line Hm2.out b2 _ (HB2.out.later HK.out.1)).mono ?_
 rintro e w1 ⟨rfl, hb⟩
 rw [Hlv.out]
 have HK1 := Lib.hid (HK.out.later hb)
 clear hb HK d0 d1 d2 d3 d4 d5 e0 e1 e2 e3 e4 e5 e6 e7 e8 e9 e10 e11
 obtain ⟨d0, d1, d2, d3, d4, d5⟩ := config_cells HK1.out.2.1
 obtain ⟨⟨e0, e1, e2, e3⟩, ⟨e4, e5, e6, e7⟩, e8, e9, e10, e11⟩ := bk_cells HK1.out.2.2
 simp only at d0 d1 d2 d3 d4 d5 e0 e1 e2 e3 e4 e5 e6 e7 e8 e9 e10 e11
 cases lv with
 | false =>
   obtain rfl : res = false := No.out fun h => by
    have : lineB ⟨n, q, r, pp, kk, cc⟩ who line = true := decide_eq_true h.1
    rw [Hlv.out] at this
    cases this
   go_wp2_with fail
   go_ret
   exact ⟨by rfl, HK1.out.1⟩
 | true =>
 have hlo : lineOk ⟨n, q, r, pp, kk, cc⟩ who line := of_decide_eq_true Hlv.out
 have Hlo := Lib.hid hlo; clear hlo
 by_cases h6 : asks < 0
 · obtain rfl : res = false := No.out fun h => by have h3 : 0 ≤ asks := h.2.1.1; omega
   go_wp2_with fail
   go_ret
   exact ⟨by rfl, HK1.out.1⟩
 by_cases h7 : r < asks
 · obtain rfl : res = false := No.out fun h => by have h3 : asks ≤ r := h.2.1.2; omega
   go_wp2_with fail
   go_ret
   exact ⟨by rfl, HK1.out.1⟩
 have Hsm : Hid (0 ≤ asks ∧ asks ≤ r) := ⟨by omega, by omega⟩
 go_wp2_with fail
 clear d0 d1 d2 d3 d4 d5 e0 e1 e2 e3 e4 e5 e6 e7 e8 e9 e10 e11
 clear h6 h7
 go_loopw [30] (fun s30 wr => ∃ k : Nat, k ≤ m2 ∧ s30 = .int .i64 k ∧ Hid (∀ i, i < k → (rqAt line i).t ≤ clk) ∧ Hid (KeptBk w w.heap.size ⟨n, q, r, pp, kk, cc⟩ ⟨clk, rows, line, outs, asks, notes, ⟨tr, ph, told, use, inc, moved⟩⟩ ⟨a1, m1, c1, a2, m2, c2, a3, m3, c3, a4, m4, c4, ⟨a5, m5, c5, a6, m6, c6, a7, m7, c7⟩⟩ wr)) (fun s30 _ => m2 - (intOf s30).toNat)
 case atStart => exact ⟨0, Nat.zero_le _, rfl, fun z hz => absurd hz (Nat.not_lt_zero _), HK1.out⟩
 case round =>
  obtain ⟨k, hk, rfl, Hl, HKr⟩ := hrel
  obtain ⟨d0, d1, d2, d3, d4, d5⟩ := config_cells HKr.out.2.1
  obtain ⟨⟨e0, e1, e2, e3⟩, ⟨e4, e5, e6, e7⟩, e8, e9, e10, e11⟩ := bk_cells HKr.out.2.2
  simp only at d0 d1 d2 d3 d4 d5 e0 e1 e2 e3 e4 e5 e6 e7 e8 e9 e10 e11
  by_cases hlt : k < m2
  · obtain ⟨b, off, rfl, g0, g1, g2⟩ := (HB2.out.later HKr.out.1).at (i := k) (by have := Hm2.out; omega)
    obtain ⟨y, Hy⟩ : ∃ z, Hid (rqAt line k = z) := ⟨_, rfl⟩
    rw [Hy.out] at g0 g1 g2
    obtain ⟨yt, ya, ym⟩ := y
    simp only at g0 g1 g2
    have k0 : (0 : Int) ≤ (k : Int) := by omega
    have k1 : (k : Int) < (m2 : Int) := by omega
    have hbl : b < wr.heap.size := World.block_lt_of_cell? wr _ g0
    have hz2 : w.heap.size + 1 < wr.heap.size := HKr.out.2.2.lt
    have hb9 := below_box wr (.cells #[.int .i64 yt, .int .i64 ya, .int .i64 ym] 68)
    have HK9 := Lib.hid (HKr.out.later hb9)
    have HX9 := Lib.hid (Whole.made wr 68 #[.int .i64 yt, .int .i64 ya, .int .i64 ym])
    have x0 := HX9.out.cell 0
    have x3 := HK9.out.2.2.cell 0
    simp only [bkAtC, bkCells] at x3
    clear hb9
    by_cases ht : clk < yt
    · obtain rfl : res = false := No.out fun h => by
       have h9 := h.2.2.1 k (by have := Hm2.out; show k < line.length; omega)
       rw [Hy.out] at h9
       have h8 : yt ≤ clk := h9
       omega
      go_wp2_with fail
      go_ret
      exact ⟨by rfl, HK9.out.1⟩
    · go_wp2_with fail
      go_roundw
      case rel => exact ⟨k + 1, by omega, by go_num, (fun z hz => by
       by_cases e : z = k
       · subst e; rw [Hy.out]; show yt ≤ clk; omega
       · exact Hl.out z (by omega)), HK9.out⟩
      case measure => simp [intOf]; omega
  · obtain rfl : m2 = k := by omega
    have Hll : Hid (∀ i, i < line.length → (rqAt line i).t ≤ clk) := fun i hi => Hl.out i (by have := Hm2.out; omega)
    clear Hl
    by_cases h0 : m2 = 0
    · subst h0
      have hln : line = [] := List.eq_nil_of_length_eq_zero Hm2.out.symm
      obtain ⟨nv, Hnv⟩ : ∃ z, Hid (noneA ⟨tr, ph, told, use, inc, moved⟩ = z) := ⟨_, rfl⟩
      by_cases ha : asks = 0
      · subst ha
        have hres : res = nv := by
         rw [← Hres.out, ← Hnv.out]
         unfold noneA
         exact decide_eq_decide.2 ⟨fun h => (h.2.2.2 hln).2, fun h => ⟨Hlo.out, Hsm.out, Hll.out, fun _ => ⟨rfl, h⟩⟩⟩
        have HRes := Lib.hid hres
        clear hres hln
        go_wp2_with fail
        refine (knone_calls ⟨tr, ph, told, use, inc, moved⟩ ⟨a5, m5, c5, a6, m6, c6, a7, m7, c7⟩ _ HA.out.1.1 HA.out.2.1.1 HA.out.2.2.1 HBa.out).mono ?_
        rintro e w2 ⟨rfl, hb⟩
        rw [Hnv.out, ← HRes.out]
        have HK2 := Lib.hid (HKr.out.later hb)
        clear hb
        go_wp2_with fail
        go_ret
        exact ⟨by rfl, HK2.out.1⟩
      · obtain rfl : res = false := No.out fun h => ha (h.2.2.2 hln).1
        have ha' : (asks == 0) = false := beq_eq_false_iff_ne.2 ha
        have HA0 := Lib.hid ha
        clear ha hln
        go_wp2_with fail
        go_ret
        exact ⟨by rfl, HKr.out.1⟩
    · have hpos : (0 : Int) < (m2 : Int) := by omega
      have hln : line ≠ [] := fun e => h0 (by rw [Hm2.out, e]; rfl)
      obtain rfl : res = true := Hres.out.symm.trans (decide_eq_true ⟨Hlo.out, Hsm.out, Hll.out, fun h => absurd h hln⟩)
      clear hln h0
      go_wp2_with fail
      go_ret
      exact ⟨by simp, HKr.out.1⟩
set_option maxRecDepth 100000 in
set_option maxHeartbeats 16000000 in
theorem kmayTell_calls (c : Cf) (hc : cfOk c) (who : Int) (x : Bk) (p : Bl) (w : World) (hK : BkIn w p x) :
 Calls Try.prog 24 #[cfV c, .int .i64 who, bkAt x p] w (Says w (decide (tellOk c who x))) := by
 have HK : Hid (KeptBk w w.heap.size c x p ((w.alloc (.cells (cfCells c) 23)).alloc (.cells (bkAtC x p) 36))) :=
  ⟨below_two w _ _, (Whole.made w _ _).alloc _, Whole.made2 w _ _ _⟩
 obtain ⟨⟨hm1, hB1⟩, ⟨hm2, hB2⟩, ⟨hm3, hB3⟩, ⟨hm4, hB4⟩, hA⟩ := hK
 have b2 : p.m2 ≤ 9223372036854775807 := by rw [hm2]; exact hB2.1
 have b3 : p.m3 ≤ 9223372036854775807 := by rw [hm3]; exact hB3.1
 have b4 : p.m4 ≤ 9223372036854775807 := by rw [hm4]; exact hB4.1
 have ba : p.al.m1 ≤ 9223372036854775807 ∧ p.al.m2 ≤ 9223372036854775807 ∧ p.al.m3 ≤ 9223372036854775807 := ⟨by rw [hA.1.1]; exact hA.1.2.1, by rw [hA.2.1.1]; exact hA.2.1.2.1, by rw [hA.2.2.1]; exact hA.2.2.2.1⟩
 obtain ⟨n, q, r, pp, kk, cc⟩ := c
 obtain ⟨clk, rows, line, outs, asks, notes, ⟨tr, ph, told, use, inc, moved⟩⟩ := x
 obtain ⟨a1, m1, c1, a2, m2, c2, a3, m3, c3, a4, m4, c4, ⟨a5, m5, c5, a6, m6, c6, a7, m7, c7⟩⟩ := p
 simp only at hm1 hB1 hm2 hB2 hm3 hB3 hm4 hB4 b2 b3 b4 ba
 have HB1 := Lib.hid hB1; clear hB1
 have HB2 := Lib.hid hB2; clear hB2
 have HB3 := Lib.hid hB3; clear hB3
 have HB4 := Lib.hid hB4; clear hB4
 have HA := Lib.hid hA; clear hA
 have HBa := Lib.hid ba; clear ba
 have Hm1 := Lib.hid hm1; clear hm1
 have Hm2 := Lib.hid hm2; clear hm2
 have Hm3 := Lib.hid hm3; clear hm3
 have Hm4 := Lib.hid hm4; clear hm4
 obtain ⟨res, Hres⟩ : ∃ z, Hid (decide (tellOk ⟨n, q, r, pp, kk, cc⟩ who ⟨clk, rows, line, outs, asks, notes, ⟨tr, ph, told, use, inc, moved⟩⟩) = z) := ⟨_, rfl⟩
 have no : ¬ tellOk ⟨n, q, r, pp, kk, cc⟩ who ⟨clk, rows, line, outs, asks, notes, ⟨tr, ph, told, use, inc, moved⟩⟩ → res = false := fun h => Hres.out.symm.trans (decide_eq_false h)
 have No := Lib.hid no; clear no
 rw [Hres.out]
 have hq : 0 ≤ q ∧ q ≤ 1000000 := by unfold cfOk at hc; simp only at hc; omega
 obtain ⟨hq1, hq2⟩ := hq
 clear hc
 go_enter Try.func24, Try.ntmps24
 obtain ⟨d0, d1, d2, d3, d4, d5⟩ := config_cells HK.out.2.1
 obtain ⟨⟨e0, e1, e2, e3⟩, ⟨e4, e5, e6, e7⟩, e8, e9, e10, e11⟩ := bk_cells HK.out.2.2
 simp only at d0 d1 d2 d3 d4 d5 e0 e1 e2 e3 e4 e5 e6 e7 e8 e9 e10 e11
 by_cases h5 : q + 1 < (m3 : Int)
 · obtain rfl : res = false := No.out fun h => by have h3 : (outs.length : Int) ≤ q + 1 := h.1; have := Hm3.out; omega
   go_wp2_with fail
   go_ret
   exact ⟨by rfl, HK.out.1⟩
 have Hsm : Hid ((outs.length : Int) ≤ q + 1) := by show _ ≤ _; have := Hm3.out; omega
 go_wp2_with fail
 clear d0 d1 d2 d3 d4 d5 e0 e1 e2 e3 e4 e5 e6 e7 e8 e9 e10 e11
 clear h5
 go_loopw [19] (fun s19 wr => ∃ k : Nat, k ≤ m3 ∧ s19 = .int .i64 k ∧ Hid (∀ i, i < k → outB ⟨n, q, r, pp, kk, cc⟩ who clk (rqAt outs i) = true) ∧ Hid (KeptBk w w.heap.size ⟨n, q, r, pp, kk, cc⟩ ⟨clk, rows, line, outs, asks, notes, ⟨tr, ph, told, use, inc, moved⟩⟩ ⟨a1, m1, c1, a2, m2, c2, a3, m3, c3, a4, m4, c4, ⟨a5, m5, c5, a6, m6, c6, a7, m7, c7⟩⟩ wr)) (fun s19 _ => m3 - (intOf s19).toNat)
 case atStart => exact ⟨0, Nat.zero_le _, rfl, fun z hz => absurd hz (Nat.not_lt_zero _), HK.out⟩
 case round =>
  clear HK
  obtain ⟨j, hj, rfl, Ho, HKr⟩ := hrel
  obtain ⟨d0, d1, d2, d3, d4, d5⟩ := config_cells HKr.out.2.1
  obtain ⟨⟨e0, e1, e2, e3⟩, ⟨e4, e5, e6, e7⟩, e8, e9, e10, e11⟩ := bk_cells HKr.out.2.2
  simp only at d0 d1 d2 d3 d4 d5 e0 e1 e2 e3 e4 e5 e6 e7 e8 e9 e10 e11
  by_cases hlt : j < m3
  · obtain ⟨b, off, rfl, g0, g1, g2⟩ := (HB3.out.later HKr.out.1).at (i := j) (by have := Hm3.out; omega)
    obtain ⟨y, Hy⟩ : ∃ z, Hid (rqAt outs j = z) := ⟨_, rfl⟩
    rw [Hy.out] at g0 g1 g2
    obtain ⟨yt, ya, ym⟩ := y
    simp only at g0 g1 g2
    have k0 : (0 : Int) ≤ (j : Int) := by omega
    have k1 : (j : Int) < (m3 : Int) := by omega
    have hbl : b < wr.heap.size := World.block_lt_of_cell? wr _ g0
    have hz2 : w.heap.size + 1 < wr.heap.size := HKr.out.2.2.lt
    obtain ⟨v, Hv⟩ : ∃ z, Hid (mayB yt ya n = z) := ⟨_, rfl⟩
    obtain ⟨ov, Hov⟩ : ∃ z, Hid (outB ⟨n, q, r, pp, kk, cc⟩ who clk ⟨yt, ya, ym⟩ = z) := ⟨_, rfl⟩
    have hov : ov = (v && (decide (ya = who ∧ yt ≤ clk) && decide (ym = 0 ∨ ym = 7))) := by rw [← Hov.out, ← Hv.out]; rfl
    have Hov2 := Lib.hid hov
    clear hov
    have Hfalse : Hid (ov = false → res = false) := fun h0 => No.out fun h => by
     have h9 := h.2 j (by have := Hm3.out; show j < outs.length; omega)
     have h8 : outB ⟨n, q, r, pp, kk, cc⟩ who clk (rqAt outs j) = true := h9
     rw [Hy.out, Hov.out, h0] at h8
     cases h8
    have Hnext : Hid (ov = true → ∀ i, i < j + 1 → outB ⟨n, q, r, pp, kk, cc⟩ who clk (rqAt outs i) = true) := fun h0 i hi => by
     by_cases e : i = j
     · subst e; rw [Hy.out, Hov.out, h0]
     · exact Ho.out i (by omega)
    have hb9 := below_box wr (.cells #[.int .i64 yt, .int .i64 ya, .int .i64 ym] 57)
    have HK9 := Lib.hid (HKr.out.later hb9)
    have HX9 := Lib.hid (Whole.made wr 57 #[.int .i64 yt, .int .i64 ya, .int .i64 ym])
    clear hb9
    have u0 := HX9.out.cell 0; have u1 := HX9.out.cell 1; have u2 := HX9.out.cell 2
    have x4 := HK9.out.2.1.cell 0
    simp only [cfCells] at x4
    go_wp2_with fail
    refine (stampmay_calls yt ya n _).mono ?_
    rw [Hv.out]
    rintro e w2 ⟨rfl, hb⟩
    have HK2 := Lib.hid (HK9.out.later hb)
    have HX2 := Lib.hid (HX9.out.later hb HX9.out.lt)
    clear hb u0 u1 u2 x4 d0 d1 d2 d3 d4 d5 e0 e1 e2 e3 e4 e5 e6 e7 e8 e9 e10 e11 g0 g1 g2
    obtain ⟨d0, d1, d2, d3, d4, d5⟩ := config_cells HK2.out.2.1
    obtain ⟨⟨e0, e1, e2, e3⟩, ⟨e4, e5, e6, e7⟩, e8, e9, e10, e11⟩ := bk_cells HK2.out.2.2
    simp only at d0 d1 d2 d3 d4 d5 e0 e1 e2 e3 e4 e5 e6 e7 e8 e9 e10 e11
    have u0 := HX2.out.cell 0; have u1 := HX2.out.cell 1; have u2 := HX2.out.cell 2
    cases v with
    | false =>
      obtain rfl : res = false := Hfalse.out (by rw [Hov2.out]; rfl)
      go_wp2_with fail
      go_ret
      exact ⟨by rfl, HK2.out.1⟩
    | true =>
      by_cases ha : ya = who
      rotate_left 1
      · obtain rfl : res = false := Hfalse.out (by rw [Hov2.out]; simp [ha])
        have ha' : (ya != who) = true := bne_iff_ne.2 ha
        clear ha
        go_wp2_with fail
        go_ret
        exact ⟨by rfl, HK2.out.1⟩
      subst ha
      by_cases ht : clk < yt
      · obtain rfl : res = false := Hfalse.out (by rw [Hov2.out]; simp [show ¬ yt ≤ clk by omega])
        go_wp2_with fail
        go_ret
        exact ⟨by rfl, HK2.out.1⟩
      have hyt : yt ≤ clk := by omega
      by_cases hm0 : ym = 0
      · subst hm0
        have HN := Lib.hid (Hnext.out (by rw [Hov2.out]; simp [hyt]))
        go_wp2_with fail
        go_roundw
        case rel => exact ⟨j + 1, by omega, by go_num, HN.out, HK2.out⟩
        case measure => simp [intOf]; omega
      have hm0' : (ym != 0) = true := bne_iff_ne.2 hm0
      by_cases hm7 : ym = 7
      · subst hm7
        have HN := Lib.hid (Hnext.out (by rw [Hov2.out]; simp [hyt]))
        clear hm0
        go_wp2_with fail
        go_roundw
        case rel => exact ⟨j + 1, by omega, by go_num, HN.out, HK2.out⟩
        case measure => simp [intOf]; omega
      · obtain rfl : res = false := Hfalse.out (by rw [Hov2.out]; simp [hm0, hm7])
        have hm7' : (ym != 7) = true := bne_iff_ne.2 hm7
        clear hm0 hm7
        go_wp2_with fail
        go_ret
        exact ⟨by rfl, HK2.out.1⟩
  · obtain rfl : m3 = j := by omega
    obtain rfl : res = true := Hres.out.symm.trans (decide_eq_true ⟨Hsm.out, fun i hi => Ho.out i (by have := Hm3.out; show i < m3; have h9 : i < outs.length := hi; omega)⟩)
    go_wp2_with fail
    go_ret
    exact ⟨by rfl, HKr.out.1⟩
set_option maxRecDepth 100000 in
set_option maxHeartbeats 16000000 in
theorem kMay_calls (c : Cf) (who : Int) (x : Bk) (p : Bl) (w : World) (hK : BkIn w p x) :
 Calls Try.prog 8 #[cfV c, .int .i64 who, bkAt x p] w (Says w (bookB c who x)) := by
 have hKK := Lib.hid hK
 have HK : Hid (KeptBk w w.heap.size c x p ((w.alloc (.cells (cfCells c) 23)).alloc (.cells (bkAtC x p) 36))) :=
  ⟨below_two w _ _, (Whole.made w _ _).alloc _, Whole.made2 w _ _ _⟩
 obtain ⟨⟨hm1, hB1⟩, ⟨hm2, hB2⟩, ⟨hm3, hB3⟩, ⟨hm4, hB4⟩, hA⟩ := hK
 have b2 : p.m2 ≤ 9223372036854775807 := by rw [hm2]; exact hB2.1
 have b3 : p.m3 ≤ 9223372036854775807 := by rw [hm3]; exact hB3.1
 have b4 : p.m4 ≤ 9223372036854775807 := by rw [hm4]; exact hB4.1
 have ba : p.al.m1 ≤ 9223372036854775807 ∧ p.al.m2 ≤ 9223372036854775807 ∧ p.al.m3 ≤ 9223372036854775807 := ⟨by rw [hA.1.1]; exact hA.1.2.1, by rw [hA.2.1.1]; exact hA.2.1.2.1, by rw [hA.2.2.1]; exact hA.2.2.2.1⟩
 obtain ⟨n, q, r, pp, kk, cc⟩ := c
 obtain ⟨clk, rows, line, outs, asks, notes, ⟨tr, ph, told, use, inc, moved⟩⟩ := x
 obtain ⟨a1, m1, c1, a2, m2, c2, a3, m3, c3, a4, m4, c4, ⟨a5, m5, c5, a6, m6, c6, a7, m7, c7⟩⟩ := p
 simp only at hm1 hB1 hm2 hB2 hm3 hB3 hm4 hB4 b2 b3 b4 ba
 have HB1 := Lib.hid hB1; clear hB1
 have HB2 := Lib.hid hB2; clear hB2
 have HB3 := Lib.hid hB3; clear hB3
 have HB4 := Lib.hid hB4; clear hB4
 have HA := Lib.hid hA; clear hA
 have HBa := Lib.hid ba; clear ba
 have Hm1 := Lib.hid hm1; clear hm1
 have Hm2 := Lib.hid hm2; clear hm2
 have Hm3 := Lib.hid hm3; clear hm3
 have Hm4 := Lib.hid hm4; clear hm4
 obtain ⟨res, Hres⟩ : ∃ z, Hid (bookB ⟨n, q, r, pp, kk, cc⟩ who ⟨clk, rows, line, outs, asks, notes, ⟨tr, ph, told, use, inc, moved⟩⟩ = z) := ⟨_, rfl⟩
 have no : ¬ bookOk ⟨n, q, r, pp, kk, cc⟩ who ⟨clk, rows, line, outs, asks, notes, ⟨tr, ph, told, use, inc, moved⟩⟩ → res = false := fun h => Hres.out.symm.trans (decide_eq_false h)
 have No := Lib.hid no; clear no
 rw [Hres.out]
 obtain ⟨rv, Hrv⟩ : ∃ z, Hid (rightB ⟨n, q, r, pp, kk, cc⟩ rows = z) := ⟨_, rfl⟩
 obtain ⟨nv, Hnv⟩ : ∃ z, Hid (notesB ⟨n, q, r, pp, kk, cc⟩ who notes = z) := ⟨_, rfl⟩
 obtain ⟨av, Hav⟩ : ∃ z, Hid (auB ⟨n, q, r, pp, kk, cc⟩ who ⟨tr, ph, told, use, inc, moved⟩ = z) := ⟨_, rfl⟩
 obtain ⟨wv, Hwv⟩ : ∃ z, Hid (decide (waitOk ⟨n, q, r, pp, kk, cc⟩ who ⟨clk, rows, line, outs, asks, notes, ⟨tr, ph, told, use, inc, moved⟩⟩) = z) := ⟨_, rfl⟩
 obtain ⟨tv, Htv⟩ : ∃ z, Hid (decide (tellOk ⟨n, q, r, pp, kk, cc⟩ who ⟨clk, rows, line, outs, asks, notes, ⟨tr, ph, told, use, inc, moved⟩⟩) = z) := ⟨_, rfl⟩
 have HV : Hid (cfOk ⟨n, q, r, pp, kk, cc⟩ → ∀ W, Below w.heap.size w W → Calls Try.prog 24 #[cfV ⟨n, q, r, pp, kk, cc⟩, .int .i64 who, bkAt ⟨clk, rows, line, outs, asks, notes, ⟨tr, ph, told, use, inc, moved⟩⟩ ⟨a1, m1, c1, a2, m2, c2, a3, m3, c3, a4, m4, c4, ⟨a5, m5, c5, a6, m6, c6, a7, m7, c7⟩⟩] W (Says W tv)) := fun hc W h => by
  have h1 := kmayTell_calls ⟨n, q, r, pp, kk, cc⟩ hc who ⟨clk, rows, line, outs, asks, notes, ⟨tr, ph, told, use, inc, moved⟩⟩ ⟨a1, m1, c1, a2, m2, c2, a3, m3, c3, a4, m4, c4, ⟨a5, m5, c5, a6, m6, c6, a7, m7, c7⟩⟩ W (hKK.out.later h)
  rw [Htv.out] at h1
  exact h1
 have HU : Hid (∀ W, Below w.heap.size w W → Calls Try.prog 23 #[cfV ⟨n, q, r, pp, kk, cc⟩, .int .i64 who, bkAt ⟨clk, rows, line, outs, asks, notes, ⟨tr, ph, told, use, inc, moved⟩⟩ ⟨a1, m1, c1, a2, m2, c2, a3, m3, c3, a4, m4, c4, ⟨a5, m5, c5, a6, m6, c6, a7, m7, c7⟩⟩] W (Says W wv)) := fun W h => by
  have h1 := kmayWait_calls ⟨n, q, r, pp, kk, cc⟩ who ⟨clk, rows, line, outs, asks, notes, ⟨tr, ph, told, use, inc, moved⟩⟩ ⟨a1, m1, c1, a2, m2, c2, a3, m3, c3, a4, m4, c4, ⟨a5, m5, c5, a6, m6, c6, a7, m7, c7⟩⟩ W (hKK.out.later h)
  rw [Hwv.out] at h1
  exact h1
 go_enter Try.func8, Try.ntmps8
 obtain ⟨d0, d1, d2, d3, d4, d5⟩ := config_cells HK.out.2.1
 obtain ⟨⟨e0, e1, e2, e3⟩, ⟨e4, e5, e6, e7⟩, e8, e9, e10, e11⟩ := bk_cells HK.out.2.2
 simp only at d0 d1 d2 d3 d4 d5 e0 e1 e2 e3 e4 e5 e6 e7 e8 e9 e10 e11
 by_cases h1 : clk < 0
 · obtain rfl : res = false := No.out fun h => by have h3 : 0 ≤ clk := h.2.2.1.1; omega
   go_wp2_with fail
   go_ret
   exact ⟨by rfl, HK.out.1⟩
 by_cases h2 : 1125899906842624 < clk
 · obtain rfl : res = false := No.out fun h => by have h3 : clk ≤ 1125899906842624 := h.2.2.1.2; omega
   go_wp2_with fail
   go_ret
   exact ⟨by rfl, HK.out.1⟩
 have Hclk : Hid (0 ≤ clk ∧ clk ≤ 1125899906842624) := ⟨by omega, by omega⟩
 go_wp2_with fail
 refine (rRight_calls ⟨n, q, r, pp, kk, cc⟩ a1 m1 c1 rows Hm1.out _ (HB1.out.later HK.out.1)).mono ?_
 rintro e w1 ⟨rfl, hb⟩
 rw [Hrv.out]
 have HK1 := Lib.hid (HK.out.later hb)
 clear hb HK d0 d1 d2 d3 d4 d5 e0 e1 e2 e3 e4 e5 e6 e7 e8 e9 e10 e11
 obtain ⟨d0, d1, d2, d3, d4, d5⟩ := config_cells HK1.out.2.1
 obtain ⟨⟨e0, e1, e2, e3⟩, ⟨e4, e5, e6, e7⟩, e8, e9, e10, e11⟩ := bk_cells HK1.out.2.2
 simp only at d0 d1 d2 d3 d4 d5 e0 e1 e2 e3 e4 e5 e6 e7 e8 e9 e10 e11
 cases rv with
 | false =>
   obtain rfl : res = false := No.out fun h => by
    have : rightB ⟨n, q, r, pp, kk, cc⟩ rows = true := decide_eq_true h.1
    rw [Hrv.out] at this
    cases this
   go_wp2_with fail
   go_ret
   exact ⟨by rfl, HK1.out.1⟩
 | true =>
 have hro := rightB_ok Hrv.out
 have Hro := Lib.hid hro
 clear hro h1 h2
 go_wp2_with fail
 refine (cMay_wide ⟨n, q, r, pp, kk, cc⟩ who a4 m4 c4 notes Hm4.out b4 _ (HB4.out.later HK1.out.1)).mono ?_
 rintro e w2 ⟨rfl, hb⟩
 rw [Hnv.out]
 have HK2 := Lib.hid (HK1.out.later hb)
 clear hb d0 d1 d2 d3 d4 d5 e0 e1 e2 e3 e4 e5 e6 e7 e8 e9 e10 e11
 obtain ⟨d0, d1, d2, d3, d4, d5⟩ := config_cells HK2.out.2.1
 obtain ⟨⟨e0, e1, e2, e3⟩, ⟨e4, e5, e6, e7⟩, e8, e9, e10, e11⟩ := bk_cells HK2.out.2.2
 simp only at d0 d1 d2 d3 d4 d5 e0 e1 e2 e3 e4 e5 e6 e7 e8 e9 e10 e11
 cases nv with
 | false =>
   obtain rfl : res = false := No.out fun h => by
    have : notesB ⟨n, q, r, pp, kk, cc⟩ who notes = true := decide_eq_true h.2.2.2.2.2.2.2.2.1
    rw [Hnv.out] at this
    cases this
   go_wp2_with fail
   go_ret
   exact ⟨by rfl, HK2.out.1⟩
 | true =>
 have hno : notesOk ⟨n, q, r, pp, kk, cc⟩ who notes := of_decide_eq_true Hnv.out
 have Hno := Lib.hid hno
 clear hno
 go_wp2_with fail
 refine (aMay_calls ⟨n, q, r, pp, kk, cc⟩ who ⟨tr, ph, told, use, inc, moved⟩ ⟨a5, m5, c5, a6, m6, c6, a7, m7, c7⟩ _ (HA.out.later HK2.out.1)).mono ?_
 rintro e w3 ⟨rfl, hb⟩
 rw [Hav.out]
 have HK3 := Lib.hid (HK2.out.later hb)
 clear hb d0 d1 d2 d3 d4 d5 e0 e1 e2 e3 e4 e5 e6 e7 e8 e9 e10 e11
 obtain ⟨d0, d1, d2, d3, d4, d5⟩ := config_cells HK3.out.2.1
 obtain ⟨⟨e0, e1, e2, e3⟩, ⟨e4, e5, e6, e7⟩, e8, e9, e10, e11⟩ := bk_cells HK3.out.2.2
 simp only at d0 d1 d2 d3 d4 d5 e0 e1 e2 e3 e4 e5 e6 e7 e8 e9 e10 e11
 cases av with
 | false =>
   obtain rfl : res = false := No.out fun h => by
    have : auB ⟨n, q, r, pp, kk, cc⟩ who ⟨tr, ph, told, use, inc, moved⟩ = true := decide_eq_true h.2.2.2.2.2.2.2.2.2
    rw [Hav.out] at this
    cases this
   go_wp2_with fail
   go_ret
   exact ⟨by rfl, HK3.out.1⟩
 | true =>
 have hau : auOk ⟨n, q, r, pp, kk, cc⟩ who ⟨tr, ph, told, use, inc, moved⟩ := of_decide_eq_true Hav.out
 have Hau := Lib.hid hau
 clear hau
 go_wp2_with fail
 refine (HU.out _ HK3.out.1).mono ?_
 rintro e w4 ⟨rfl, hb⟩
 have HK4 := Lib.hid (HK3.out.later hb)
 clear hb d0 d1 d2 d3 d4 d5 e0 e1 e2 e3 e4 e5 e6 e7 e8 e9 e10 e11
 obtain ⟨d0, d1, d2, d3, d4, d5⟩ := config_cells HK4.out.2.1
 obtain ⟨⟨e0, e1, e2, e3⟩, ⟨e4, e5, e6, e7⟩, e8, e9, e10, e11⟩ := bk_cells HK4.out.2.2
 simp only at d0 d1 d2 d3 d4 d5 e0 e1 e2 e3 e4 e5 e6 e7 e8 e9 e10 e11
 cases wv with
 | false =>
   obtain rfl : res = false := No.out fun h => by
    have : decide (waitOk ⟨n, q, r, pp, kk, cc⟩ who ⟨clk, rows, line, outs, asks, notes, ⟨tr, ph, told, use, inc, moved⟩⟩) = true := decide_eq_true ⟨h.2.2.2.1, h.2.2.2.2.1.2, h.2.2.2.2.2.1, h.2.2.2.2.2.2.2.1⟩
    rw [Hwv.out] at this
    cases this
   go_wp2_with fail
   go_ret
   exact ⟨by rfl, HK4.out.1⟩
 | true =>
 have hwa : waitOk ⟨n, q, r, pp, kk, cc⟩ who ⟨clk, rows, line, outs, asks, notes, ⟨tr, ph, told, use, inc, moved⟩⟩ := of_decide_eq_true Hwv.out
 have Hwa := Lib.hid hwa
 clear hwa
 go_wp2_with fail
 refine (HV.out Hro.out.1 _ HK4.out.1).mono ?_
 rintro e w5 ⟨rfl, hb⟩
 have HK5 := Lib.hid (HK4.out.later hb)
 clear hb
 have hrt : res = tv := by
  rw [← Hres.out, ← Htv.out]
  exact decide_eq_decide.2 ⟨fun h => ⟨h.2.2.2.2.1.1, h.2.2.2.2.2.2.1⟩, fun h => ⟨Hro.out, Hau.out.2.1, Hclk.out, Hwa.out.1, ⟨h.1, Hwa.out.2.1⟩, Hwa.out.2.2.1, h.2, Hwa.out.2.2.2, Hno.out, Hau.out⟩⟩
 subst hrt
 go_wp2_with fail
 go_ret
 exact ⟨by rfl, HK5.out.1⟩
end Go.Proofs.Ytnkgakhnlbifdaa
