/- Parts, as far as BookTakesCards reaches them, of: LineMay, ClaimFits, ClaimMay. No law is proved here. -/
import Derived.Test.YtnkgakhnlbifdaaGreatTb31
import Derived.Test.YtnkgakhnlbifdaaGreatTb22
import Derived.Test.YtnkgakhnlbifdaaGreatTb30
import Derived.Test.YtnkgakhnlbifdaaGreatTb26
import Derived.WalkSmall
namespace Go.Proofs.YtnkgakhnlbifdaaGreat
open Go.RowKit
theorem fault_zero {c : Cf} {who : Int} {l : List Rq} {k : Nat} {x : Rq} : faultV c who l k x = 0 ↔ (k : Int) < c.q ∧ oneB c who x = true ∧ (0 < k → rqOld (rqAt l (k - 1)) x = true) := by
 by_cases h1 : x.m < 1 ∨ 1099511627776 < x.m
 · rw [fault_two h1]
   constructor
   · intro h; cases h
   · rintro ⟨_, h2, _⟩
     have := oneB_iff.1 h2
     unfold oneOk at this
     omega
 · by_cases h2 : c.q ≤ (k : Int)
   · rw [fault_three h1 h2]
     constructor
     · intro h; cases h
     · rintro ⟨h, _⟩; omega
   · by_cases h3 : mayB x.t x.a c.n = true ∧ x.a = who
     · rw [fault_last h1 (by omega) h3]
       have ho : oneB c who x = true := by unfold oneB; rw [h3.1]; simp; omega
       by_cases h4 : 0 < k ∧ rqOld (rqAt l (k - 1)) x = false
       · rw [if_pos h4]
         constructor
         · intro h; cases h
         · rintro ⟨_, _, h⟩; rw [h h4.1] at h4; cases h4.2
       · rw [if_neg h4]
         refine ⟨fun _ => ⟨by omega, ho, fun h => ?_⟩, fun _ => rfl⟩
         cases h5 : rqOld (rqAt l (k - 1)) x with
         | true => rfl
         | false => exact absurd ⟨h, h5⟩ h4
     · rw [fault_one h1 (by omega) h3]
       constructor
       · intro h; cases h
       · rintro ⟨_, h, _⟩
         have := oneB_iff.1 h
         unfold oneOk at this
         exact absurd ⟨mayB_yes (by omega), this.2.1⟩ h3
theorem lineB_faults {c : Cf} {who : Int} {l : List Rq} (h1 : cfB c = true) (h2 : 0 ≤ who ∧ who < c.n) (h3 : ∀ i, i < l.length → faultV c who l i (rqAt l i) = 0) : lineB c who l = true := by
 refine lineB_yes ⟨cfB_ok h1, h2, ?_, fun i hi => (fault_zero.1 (h3 i hi)).2⟩
 have hc := cfB_ok h1
 unfold cfOk at hc
 by_cases h0 : l.length = 0
 · omega
 · have := (fault_zero.1 (h3 (l.length - 1) (by omega))).1
   omega
theorem lineB_fault {c : Cf} {who : Int} {l : List Rq} {i : Nat} (hi : i < l.length) (h : faultV c who l i (rqAt l i) ≠ 0) : lineB c who l = false := lineB_no fun h2 => h (by
 obtain ⟨_, _, h3, h4⟩ := h2
 exact fault_zero.2 ⟨by omega, h4 i hi⟩)
theorem lineB_false' {c : Cf} {who : Int} {l : List Rq} {b : Bool} (hb : lineB c who l = b) (h : ¬ lineOk c who l) : b = false := hb.symm.trans (lineB_no h)
set_option maxRecDepth 100000 in
set_option maxHeartbeats 8000000 in
theorem lMay_wide (c : Cf) (who : Int) (a : Option Addr) (m cp : Nat) (l : List Rq) (hm : m = l.length) (hsmall : m ≤ 9223372036854775807) (w : World) (hB : Line w (.slice a m cp) l) :
 Calls Tryz.prog 79 #[cfV c, .int .i64 who, .slice a m cp] w (Says w (lineB c who l)) := by
 have HW := Lib.hid (Whole.made w 23 (cfCells c))
 have Hb0 := Lib.hid (below_box w (.cells (cfCells c) 23))
 have HB := Lib.hid hB; clear hB
 have Hm := Lib.hid hm; clear hm
 obtain ⟨n, q, r, p, kk, cc⟩ := c
 obtain ⟨res, Hres⟩ : ∃ z, Hid (lineB ⟨n, q, r, p, kk, cc⟩ who l = z) := ⟨_, rfl⟩
 rw [Hres.out]
 obtain ⟨ok, Hok⟩ : ∃ z, Hid (cfB ⟨n, q, r, p, kk, cc⟩ = z) := ⟨_, rfl⟩
 go_enter Tryz.func79, Tryz.ntmps79
 go_wp2_with fail
 refine (rMay_calls ⟨n, q, r, p, kk, cc⟩ _).mono ?_
 rintro e w1 ⟨rfl, hb⟩
 rw [Hok.out]
 have Hb1 := Lib.hid (held_next Hb0.out hb)
 have HW1 := Lib.hid (HW.out.later hb HW.out.lt)
 clear hb
 obtain ⟨d0, d1, d2, d3, d4, d5⟩ := config_cells HW1.out
 simp only at d0 d1 d2 d3 d4 d5
 cases ok with
 | false =>
   obtain rfl : res = false := lineB_false' Hres.out fun h => by
    have := cfB_yes h.1
    rw [Hok.out] at this
    cases this
   go_wp2_with fail
   go_ret
   exact ⟨rfl, Hb1.out⟩
 | true =>
   by_cases h1 : who < 0
   · obtain rfl : res = false := lineB_false' Hres.out fun h => by have := h.2.1.1; omega
     go_wp2_with fail
     go_ret
     exact ⟨by rfl, Hb1.out⟩
   by_cases h2 : n ≤ who
   · obtain rfl : res = false := lineB_false' Hres.out fun h => by have : who < n := h.2.1.2; omega
     go_wp2_with fail
     go_ret
     exact ⟨by rfl, Hb1.out⟩
   have Hwho : Hid (0 ≤ who ∧ who < n) := by show _ ∧ _; omega
   go_wp2_with fail
   refine (faults_calls ⟨n, q, r, p, kk, cc⟩ who a m cp _).mono ?_
   rintro e w2 ⟨v, rfl, hC, hb⟩
   have Hb2 := Lib.hid (held_next Hb1.out hb)
   have HC := Lib.hid hC
   clear hb hC d0 d1 d2 d3 d4 d5
   obtain ⟨bc, bw, bl, rfl, q1, q2, q3⟩ := HC.out
   have Q1 := Lib.hid q1; clear q1
   have Q2 := Lib.hid q2; clear q2
   have Q3 := Lib.hid q3; clear q3
   go_wp2_with fail
   go_loopw [29] (fun s wr => ∃ k : Nat, k ≤ m ∧ s = .int .i64 k ∧ Hid (∀ i, i < k → faultV ⟨n, q, r, p, kk, cc⟩ who l i (rqAt l i) = 0) ∧ Hid (Below w2.heap.size w2 wr)) (fun s _ => m - (intOf s).toNat)
   case atStart => exact ⟨0, Nat.zero_le _, rfl, fun z hz => absurd hz (Nat.not_lt_zero _), Below.refl _ _⟩
   case round =>
    obtain ⟨k, hk, rfl, Hl, Hb⟩ := hrel
    by_cases hlt : k < m
    · obtain ⟨b, off, rfl, c0, c1, c2⟩ := (HB.out.later (held_next Hb2.out Hb.out)).at (i := k) (by have := Hm.out; omega)
      obtain ⟨x, Hx⟩ : ∃ z, Hid (rqAt l k = z) := ⟨_, rfl⟩
      rw [Hx.out] at c0 c1 c2
      obtain ⟨f, Hf⟩ : ∃ z, Hid (faultV ⟨n, q, r, p, kk, cc⟩ who l k x = z) := ⟨_, rfl⟩
      have k0 : (0 : Int) ≤ (k : Int) := by omega
      have k1 : (k : Int) < (m : Int) := by omega
      have Hbx := Lib.hid (held_next (below_next Hb.out Hb.out.size (below_box wr (.cells (rqCells x) 67))) (Below.refl _ _))
      have HX := Lib.hid (Whole.made wr 67 (rqCells x))
      obtain ⟨f0, f1, f2⟩ := rq_cells HX.out
      obtain ⟨t, u, v⟩ := x
      simp only at c0 c1 c2 f0 f1 f2
      go_wp2_with fail
      refine (fault_calls ⟨n, q, r, p, kk, cc⟩ who _ m cp l k ⟨t, u, v⟩ Hm.out hk bc bw bl _ (HB.out.later (held_next Hb2.out Hbx.out)) (Q1.out.later Hbx.out Q1.out.lt) (cell_later Hbx.out Q2.out) (cell_later Hbx.out Q3.out)).mono ?_
      rw [Hf.out]
      rintro e w3 ⟨rfl, hb⟩
      have Hb3 := Lib.hid (held_next Hbx.out hb)
      clear hb c0 c1 c2 f0 f1 f2
      by_cases hf : f = 0
      · subst hf
        go_wp2_with fail
        go_roundw
        case rel => exact ⟨k + 1, by omega, by go_num, (fun z hz => by
         by_cases e : z = k
         · subst e; rw [Hx.out]; exact Hf.out
         · exact Hl.out z (by omega)), Hb3.out⟩
        case measure => simp [intOf]; omega
      · obtain rfl : res = false := Hres.out.symm.trans (lineB_fault (i := k) (by have := Hm.out; omega) (by rw [Hx.out, Hf.out]; exact hf))
        have hfn : (f != 0) = true := bne_iff_ne.2 hf
        go_wp2_with fail
        go_ret
        exact ⟨by rfl, held_next Hb2.out Hb3.out⟩
    · obtain rfl : res = true := Hres.out.symm.trans (lineB_faults Hok.out Hwho.out fun i hi => Hl.out i (by have := Hm.out; omega))
      go_wp2_with fail
      go_ret
      exact ⟨by rfl, held_next Hb2.out Hb.out⟩
end Go.Proofs.YtnkgakhnlbifdaaGreat
namespace Go.Proofs.YtnkgakhnlbifdaaGreat
open Go.RowKit
set_option maxRecDepth 100000 in
set_option maxHeartbeats 8000000 in
theorem head_calls (c : Cf) (who : Int) (x : Nt) (w : World) : Calls Tryz.prog 101 #[tdV c who x] w (Says w (headB c who x)) := by
 have HX := Lib.hid ((Whole.made w 119 (tdCells c who x)).alloc (.cells (rqCells ⟨x.t, x.a, x.m⟩) 67))
 have HQ := Lib.hid (Whole.made2 w (.cells (tdCells c who x) 119) 67 (rqCells ⟨x.t, x.a, x.m⟩))
 have Hb0 := Lib.hid (below_two w (.cells (tdCells c who x) 119) (.cells (rqCells ⟨x.t, x.a, x.m⟩) 67))
 obtain ⟨n, q, r, p, kk, cc⟩ := c
 obtain ⟨clk, t, a, m, asks, try_, ph⟩ := x
 obtain ⟨z0, Hz0⟩ : ∃ z, Hid (decide (t = 0 ∧ a = 0 ∧ m = 0) = z) := ⟨_, rfl⟩
 obtain ⟨mv, Hmv⟩ : ∃ z, Hid (mayB t a n = z) := ⟨_, rfl⟩
 obtain ⟨res, Hres⟩ : ∃ z, Hid (headB ⟨n, q, r, p, kk, cc⟩ who ⟨clk, t, a, m, asks, try_, ph⟩ = z) := ⟨_, rfl⟩
 have hres : res = (z0 || (mv && decide (a = who ∧ 0 < m ∧ m ≤ 1099511627776))) := by
  rw [← Hres.out, ← Hz0.out, ← Hmv.out]; rfl
 rw [Hres.out]
 try simp only at HX HQ Hb0
 go_enter Tryz.func101, Tryz.ntmps101
 go_wp2_with fail
 refine (none_calls t a m _).mono ?_
 rw [Hz0.out]
 rintro e w1 ⟨rfl, hb⟩
 have HX1 := Lib.hid (HX.out.later hb HX.out.lt)
 have HQ1 := Lib.hid (HQ.out.later hb HQ.out.lt)
 have Hb1 := Lib.hid (held_next Hb0.out hb)
 clear hb HX HQ Hb0
 cases z0 with
 | true =>
   obtain rfl : res = true := hres
   go_wp2_with fail
   go_ret
   exact ⟨by rfl, Hb1.out⟩
 | false =>
 rw [Bool.false_or] at hres
 have Hr := Lib.hid hres; clear hres
 obtain ⟨e0, e1, e2, e3, e4, e5, e6, e7, e8, e9, e10, e11, e12, e13⟩ := td_cells HX1.out
 obtain ⟨f0, f1, f2⟩ := rq_cells HQ1.out
 simp only at e0 e1 e2 e3 e4 e5 e6 e7 e8 e9 e10 e11 e12 e13 f0 f1 f2
 go_wp2_with fail
 refine (stampmay_calls t a n _).mono ?_
 rw [Hmv.out]
 rintro e w2 ⟨rfl, hb⟩
 have HX2 := Lib.hid (HX1.out.later hb HX1.out.lt)
 have HQ2 := Lib.hid (HQ1.out.later hb HQ1.out.lt)
 have Hb2 := Lib.hid (held_next Hb1.out hb)
 clear hb HX1 HQ1 Hb1 e0 e1 e2 e3 e4 e5 e6 e7 e8 e9 e10 e11 e12 e13 f0 f1 f2
 obtain ⟨e0, e1, e2, e3, e4, e5, e6, e7, e8, e9, e10, e11, e12, e13⟩ := td_cells HX2.out
 obtain ⟨f0, f1, f2⟩ := rq_cells HQ2.out
 simp only at e0 e1 e2 e3 e4 e5 e6 e7 e8 e9 e10 e11 e12 e13 f0 f1 f2
 have hr := Hr.out
 cases mv with
 | false =>
   obtain rfl : res = false := hr
   go_wp2_with fail
   go_ret
   exact ⟨by rfl, Hb2.out⟩
 | true =>
 rw [Bool.true_and] at hr
 by_cases h1 : a = who
 · by_cases h2 : 1 ≤ m
   · by_cases h3 : m ≤ 1099511627776
     · rw [decide_eq_true ⟨h1, by omega, h3⟩] at hr
       subst hr h1
       go_wp2_with fail
       go_ret
       exact ⟨by first | rfl | (simp; done) | (simp; omega), Hb2.out⟩
     · rw [decide_eq_false (fun h => h3 h.2.2)] at hr
       subst hr h1
       go_wp2_with fail
       go_ret
       exact ⟨by first | rfl | (simp; done) | (simp; omega), Hb2.out⟩
   · rw [decide_eq_false (fun h => h2 (by omega))] at hr
     subst hr h1
     go_wp2_with fail
     go_ret
     exact ⟨by first | rfl | (simp; done) | (simp; omega), Hb2.out⟩
 · rw [decide_eq_false (fun h => h1 h.1)] at hr
   subst hr
   have h1' : (a == who) = false := beq_eq_false_iff_ne.2 h1
   clear h1
   go_wp2_with fail
   go_ret
   exact ⟨by rfl, Hb2.out⟩
set_option maxRecDepth 100000 in
set_option maxHeartbeats 8000000 in
theorem fits_calls (c : Cf) (who : Int) (x : Nt) (w : World) : Calls Tryz.prog 75 #[tdV c who x] w (Says w (noteB c who x)) := by
 have HX := Lib.hid (Whole.made w 119 (tdCells c who x))
 have Hb0 := Lib.hid (below_box w (.cells (tdCells c who x) 119))
 have hC1 := fun w => clock_calls c who x w
 have hC2 := fun w => head_calls c who x w
 have hC3 := fun w => asks_calls c who x w
 have hC4 := fun w => look_calls c who x w
 obtain ⟨z1, Hz1⟩ : ∃ z, Hid (clockB x = z) := ⟨_, rfl⟩
 obtain ⟨z2, Hz2⟩ : ∃ z, Hid (headB c who x = z) := ⟨_, rfl⟩
 obtain ⟨z3, Hz3⟩ : ∃ z, Hid (asksB c x = z) := ⟨_, rfl⟩
 obtain ⟨z4, Hz4⟩ : ∃ z, Hid (lookB x.try_ x.ph = z) := ⟨_, rfl⟩
 obtain ⟨res, Hres⟩ : ∃ z, Hid (noteB c who x = z) := ⟨_, rfl⟩
 have hres : res = (z1 && (z2 && (z3 && z4))) := by
  rw [← Hres.out, ← Hz1.out, ← Hz2.out, ← Hz3.out, ← Hz4.out]; exact noteB_parts c who x
 rw [Hz1.out] at hC1
 rw [Hz2.out] at hC2
 rw [Hz3.out] at hC3
 rw [Hz4.out] at hC4
 rw [Hres.out]
 have HC1 := Lib.hid hC1; have HC2 := Lib.hid hC2; have HC3 := Lib.hid hC3; have HC4 := Lib.hid hC4
 have Hr := Lib.hid hres
 clear hC1 hC2 hC3 hC4 hres Hz1 Hz2 Hz3 Hz4 Hres
 obtain ⟨n, q, r, p, kk, cc⟩ := c
 obtain ⟨clk, t, a, m, asks, try_, ph⟩ := x
 try simp only at HX Hb0
 have HX0 := Lib.hid (HX.out.alloc (.cells #[.func (.func 100) #[] #[], .func (.func 101) #[] #[], .func (.func 102) #[] #[], .func (.func 103) #[] #[]] 117))
 have HS0 := Lib.hid (Whole.made2 w (.cells (tdCells ⟨n, q, r, p, kk, cc⟩ who ⟨clk, t, a, m, asks, try_, ph⟩) 119) 117 #[.func (.func 100) #[] #[], .func (.func 101) #[] #[], .func (.func 102) #[] #[], .func (.func 103) #[] #[]])
 have Hb9 := Lib.hid (below_two w (.cells (tdCells ⟨n, q, r, p, kk, cc⟩ who ⟨clk, t, a, m, asks, try_, ph⟩) 119) (.cells #[.func (.func 100) #[] #[], .func (.func 101) #[] #[], .func (.func 102) #[] #[], .func (.func 103) #[] #[]] 117))
 clear HX Hb0
 obtain ⟨e0, e1, e2, e3, e4, e5, e6, e7, e8, e9, e10, e11, e12, e13⟩ := td_cells HX0.out
 simp only at e0 e1 e2 e3 e4 e5 e6 e7 e8 e9 e10 e11 e12 e13
 have g0 := HS0.out.cell 0; have g1 := HS0.out.cell 1; have g2 := HS0.out.cell 2; have g3 := HS0.out.cell 3
 simp at g0 g1 g2 g3
 go_enter Tryz.func75, Tryz.ntmps75
 go_wp2_with fail
 refine wp_loop_rounds 5 ?_
 rw [rounds_succ]
 go_wp2_with fail
 refine (HC1.out _).mono ?_
 rintro e w1 ⟨rfl, hb⟩
 have HX1 := Lib.hid (HX0.out.later hb HX0.out.lt)
 have HS1 := Lib.hid (HS0.out.later hb HS0.out.lt)
 have Hb1 := Lib.hid (held_next Hb9.out hb)
 clear hb e0 e1 e2 e3 e4 e5 e6 e7 e8 e9 e10 e11 e12 e13 g0 g1 g2 g3
 obtain ⟨e0, e1, e2, e3, e4, e5, e6, e7, e8, e9, e10, e11, e12, e13⟩ := td_cells HX1.out
 simp only at e0 e1 e2 e3 e4 e5 e6 e7 e8 e9 e10 e11 e12 e13
 have g0 := HS1.out.cell 0; have g1 := HS1.out.cell 1; have g2 := HS1.out.cell 2; have g3 := HS1.out.cell 3
 simp at g0 g1 g2 g3
 have hr := Hr.out
 clear Hr
 cases z1 with
 | false =>
   obtain rfl : res = false := hr
   go_wp2_with fail
   go_ret
   exact ⟨by rfl, Hb1.out⟩
 | true =>
 rw [Bool.true_and] at hr
 have Hr := Lib.hid hr; clear hr
 go_wp2_with fail
 rw [rounds_succ]
 go_wp2_with fail
 refine (HC2.out _).mono ?_
 rintro e w2 ⟨rfl, hb⟩
 have HX2 := Lib.hid (HX1.out.later hb HX1.out.lt)
 have HS2 := Lib.hid (HS1.out.later hb HS1.out.lt)
 have Hb2 := Lib.hid (held_next Hb1.out hb)
 clear hb e0 e1 e2 e3 e4 e5 e6 e7 e8 e9 e10 e11 e12 e13 g0 g1 g2 g3
 obtain ⟨e0, e1, e2, e3, e4, e5, e6, e7, e8, e9, e10, e11, e12, e13⟩ := td_cells HX2.out
 simp only at e0 e1 e2 e3 e4 e5 e6 e7 e8 e9 e10 e11 e12 e13
 have g0 := HS2.out.cell 0; have g1 := HS2.out.cell 1; have g2 := HS2.out.cell 2; have g3 := HS2.out.cell 3
 simp at g0 g1 g2 g3
 have hr := Hr.out
 clear Hr
 cases z2 with
 | false =>
   obtain rfl : res = false := hr
   go_wp2_with fail
   go_ret
   exact ⟨by rfl, Hb2.out⟩
 | true =>
 rw [Bool.true_and] at hr
 have Hr := Lib.hid hr; clear hr
 go_wp2_with fail
 rw [rounds_succ]
 go_wp2_with fail
 refine (HC3.out _).mono ?_
 rintro e w3 ⟨rfl, hb⟩
 have HX3 := Lib.hid (HX2.out.later hb HX2.out.lt)
 have HS3 := Lib.hid (HS2.out.later hb HS2.out.lt)
 have Hb3 := Lib.hid (held_next Hb2.out hb)
 clear hb e0 e1 e2 e3 e4 e5 e6 e7 e8 e9 e10 e11 e12 e13 g0 g1 g2 g3
 obtain ⟨e0, e1, e2, e3, e4, e5, e6, e7, e8, e9, e10, e11, e12, e13⟩ := td_cells HX3.out
 simp only at e0 e1 e2 e3 e4 e5 e6 e7 e8 e9 e10 e11 e12 e13
 have g0 := HS3.out.cell 0; have g1 := HS3.out.cell 1; have g2 := HS3.out.cell 2; have g3 := HS3.out.cell 3
 simp at g0 g1 g2 g3
 have hr := Hr.out
 clear Hr
 cases z3 with
 | false =>
   obtain rfl : res = false := hr
   go_wp2_with fail
   go_ret
   exact ⟨by rfl, Hb3.out⟩
 | true =>
 rw [Bool.true_and] at hr
 have Hr := Lib.hid hr; clear hr
 go_wp2_with fail
 rw [rounds_succ]
 go_wp2_with fail
 refine (HC4.out _).mono ?_
 rintro e w4 ⟨rfl, hb⟩
 have HX4 := Lib.hid (HX3.out.later hb HX3.out.lt)
 have HS4 := Lib.hid (HS3.out.later hb HS3.out.lt)
 have Hb4 := Lib.hid (held_next Hb3.out hb)
 clear hb e0 e1 e2 e3 e4 e5 e6 e7 e8 e9 e10 e11 e12 e13 g0 g1 g2 g3
 obtain ⟨e0, e1, e2, e3, e4, e5, e6, e7, e8, e9, e10, e11, e12, e13⟩ := td_cells HX4.out
 simp only at e0 e1 e2 e3 e4 e5 e6 e7 e8 e9 e10 e11 e12 e13
 have g0 := HS4.out.cell 0; have g1 := HS4.out.cell 1; have g2 := HS4.out.cell 2; have g3 := HS4.out.cell 3
 simp at g0 g1 g2 g3
 have hr := Hr.out
 clear Hr
 cases z4 with
 | false =>
   obtain rfl : res = false := hr
   go_wp2_with fail
   go_ret
   exact ⟨by rfl, Hb4.out⟩
 | true =>
 obtain rfl : res = true := hr
 go_wp2_with fail
 rw [rounds_succ]
 go_wp2_with fail
 go_ret
 exact ⟨by rfl, Hb4.out⟩
end Go.Proofs.YtnkgakhnlbifdaaGreat
namespace Go.Proofs.YtnkgakhnlbifdaaGreat
open Go.RowKit
theorem nt_small {l : List Nt} {m : Nat} (hm : m = l.length) {who : Int} (h1 : 0 ≤ who) (h2 : who < (m : Int)) : who.toNat < l.length := by omega
set_option maxRecDepth 100000 in
set_option maxHeartbeats 8000000 in
theorem cMay_wide (c : Cf) (who : Int) (a : Option Addr) (m cp : Nat) (l : List Nt) (hm : m = l.length) (hs : m ≤ 9223372036854775807) (w : World) (hB : Notes w (.slice a m cp) l) :
 Calls Tryz.prog 44 #[cfV c, .int .i64 who, .slice a m cp] w (Says w (notesB c who l)) := by
 have HW := Lib.hid (Whole.made w 23 (cfCells c))
 have Hb0 := Lib.hid (below_box w (.cells (cfCells c) 23))
 have HB := Lib.hid hB; clear hB
 have Hm := Lib.hid hm; clear hm
 obtain ⟨n, q, r, p, kk, cc⟩ := c
 obtain ⟨res, Hres⟩ : ∃ z, Hid (notesB ⟨n, q, r, p, kk, cc⟩ who l = z) := ⟨_, rfl⟩
 have no : ¬ notesOk ⟨n, q, r, p, kk, cc⟩ who l → res = false := fun h => Hres.out.symm.trans (notesB_no h)
 have No := Lib.hid no; clear no
 rw [Hres.out]
 obtain ⟨ok, Hok⟩ : ∃ z, Hid (cfB ⟨n, q, r, p, kk, cc⟩ = z) := ⟨_, rfl⟩
 obtain ⟨amo, Hamo⟩ : ∃ z, Hid (decide (0 ≤ who ∧ who < n) = z) := ⟨_, rfl⟩
 go_enter Tryz.func44, Tryz.ntmps44
 go_wp2_with fail
 refine (rMay_calls ⟨n, q, r, p, kk, cc⟩ _).mono ?_
 rintro e w1 ⟨rfl, hb⟩
 rw [Hok.out]
 have Hb1 := Lib.hid (held_next Hb0.out hb)
 have HW1 := Lib.hid (HW.out.later hb HW.out.lt)
 clear hb HW Hb0
 obtain ⟨d0, d1, d2, d3, d4, d5⟩ := config_cells HW1.out
 simp only at d0 d1 d2 d3 d4 d5
 cases ok with
 | false =>
   obtain rfl : res = false := No.out fun h => by
    have := cfB_yes h.1
    rw [Hok.out] at this
    cases this
   go_wp2_with fail
   go_ret
   exact ⟨by rfl, Hb1.out⟩
 | true =>
 go_wp2_with fail
 refine (amongc_calls ⟨n, q, r, p, kk, cc⟩ who _).mono ?_
 rintro e w2 ⟨rfl, hb⟩
 rw [show decide (0 ≤ who ∧ who < (Cf.mk n q r p kk cc).n) = amo from Hamo.out]
 have Hb2 := Lib.hid (held_next Hb1.out hb)
 have HW2 := Lib.hid (HW1.out.later hb HW1.out.lt)
 clear hb HW1 Hb1 d0 d1 d2 d3 d4 d5
 obtain ⟨d0, d1, d2, d3, d4, d5⟩ := config_cells HW2.out
 simp only at d0 d1 d2 d3 d4 d5
 cases amo with
 | false =>
   obtain rfl : res = false := No.out fun h => (of_decide_eq_false Hamo.out) h.2.1
   go_wp2_with fail
   go_ret
   exact ⟨by rfl, Hb2.out⟩
 | true =>
 have Hwho := Lib.hid (of_decide_eq_true Hamo.out)
 by_cases h3 : (m : Int) = n
 rotate_left 1
 · obtain rfl : res = false := No.out fun h => h3 (by have := h.2.2.1; rw [Hm.out]; exact this)
   have h3' : ((m : Int) != n) = true := bne_iff_ne.2 h3
   clear h3
   go_wp2_with fail
   go_ret
   exact ⟨by rfl, Hb2.out⟩
 have hok := cfB_ok Hok.out
 have hn16 : n ≤ 16 := hok.2.1
 subst h3
 have hw1 : 0 ≤ who := Hwho.out.1
 have hw2 : who < (m : Int) := Hwho.out.2
 obtain ⟨b, off, rfl, hN⟩ := HB.out.at (i := who.toNat) (nt_small Hm.out hw1 hw2)
 obtain ⟨y, Hy⟩ : ∃ z, Hid (ntAt l who.toNat = z) := ⟨_, rfl⟩
 rw [Hy.out] at hN
 have HN := Lib.hid (NtIn.later hN Hb2.out); clear hN hok
 obtain ⟨z, Hz⟩ : ∃ z, Hid ((!decide (y = nt0)) = z) := ⟨_, rfl⟩
 obtain ⟨y0, y1, y2, y3, y4, y5, y6⟩ := y
 obtain ⟨e0, e1, e2, e3, e4, e5, e6⟩ := HN.out
 simp only at e0 e1 e2 e3 e4 e5 e6
 have heq : ∀ w : World, (binOp .neq 71 (.agg #[.int .i64 y0, .int .i64 y1, .int .i64 y2, .int .i64 y3, .int .i64 y4, .int .i64 y5, .int .i64 y6]) (.agg #[.int .i64 0, .int .i64 0, .int .i64 0, .int .i64 0, .int .i64 0, .int .i64 0, .int .i64 0])).run Tryz.prog w = .ok (.bool z) w := fun w => (run_neq_nt w ⟨y0, y1, y2, y3, y4, y5, y6⟩ nt0).trans (by rw [← Hz.out])
 cases z with
 | true =>
   obtain rfl : res = false := No.out fun h => by
    have h9 := (h.2.2.2 who.toNat (nt_small Hm.out hw1 hw2)).2 (Int.toNat_of_nonneg hw1)
    rw [Hy.out] at h9
    have := Hz.out
    rw [h9] at this
    simp at this
   go_wp2_with fail
   go_ret
   exact ⟨by rfl, Hb2.out⟩
 | false =>
 have Hown : Hid (∀ i : Nat, (i : Int) = who → ntAt l i = nt0) := fun i hi => by
  have e : who.toNat = i := by omega
  have h9 := Hy.out
  rw [e] at h9
  rw [h9]
  simpa using Hz.out
 go_wp2_with fail
 clear d0 d1 d2 d3 d4 d5 e0 e1 e2 e3 e4 e5 e6 heq HN
 go_loopw [35] (fun s7 wr => ∃ k : Nat, k ≤ m ∧ s7 = .int .i64 k ∧ Hid (∀ i, i < k → noteB ⟨m, q, r, p, kk, cc⟩ i (ntAt l i) = true) ∧ Hid (Below w.heap.size w wr) ∧ Hid (Whole wr w.heap.size 23 (cfCells ⟨m, q, r, p, kk, cc⟩))) (fun s7 _ => m - (intOf s7).toNat)
 case atStart => exact ⟨0, Nat.zero_le _, rfl, fun z hz => absurd hz (Nat.not_lt_zero _), Hb2.out, HW2.out⟩
 case round =>
  obtain ⟨k, hk, rfl, Hl, Hb, HWr⟩ := hrel
  obtain ⟨d0, d1, d2, d3, d4, d5⟩ := config_cells HWr.out
  simp only at d0 d1 d2 d3 d4 d5
  by_cases hlt : k < m
  · obtain ⟨b9, off9, hsame, hN⟩ := HB.out.at (i := k) (by have := Hm.out; omega)
    simp only [Option.some.injEq, Addr.mk.injEq] at hsame
    obtain ⟨rfl, rfl, _⟩ := hsame
    obtain ⟨x, Hx⟩ : ∃ z, Hid (ntAt l k = z) := ⟨_, rfl⟩
    rw [Hx.out] at hN
    obtain ⟨e0, e1, e2, e3, e4, e5, e6⟩ := NtIn.later hN Hb.out
    obtain ⟨v, Hv⟩ : ∃ z, Hid (noteB ⟨m, q, r, p, kk, cc⟩ k x = z) := ⟨_, rfl⟩
    clear hN
    have hbx := below_box wr (.cells (ntCells x) 71)
    have Hbx := Lib.hid (held_next Hb.out hbx)
    have HWx := Lib.hid (HWr.out.later hbx HWr.out.lt)
    have hwl := HWr.out.lt
    clear hbx
    obtain ⟨x0, x1, x2, x3, x4, x5, x6⟩ := x
    simp only at e0 e1 e2 e3 e4 e5 e6
    have k0 : (0 : Int) ≤ (k : Int) := by omega
    have k1 : (k : Int) < (m : Int) := by omega
    go_wp2_with fail
    refine (fits_calls ⟨m, q, r, p, kk, cc⟩ k ⟨x0, x1, x2, x3, x4, x5, x6⟩ _).mono ?_
    rw [Hv.out]
    rintro e w3 ⟨rfl, hb⟩
    have Hb3 := Lib.hid (held_next Hbx.out hb)
    have HW3 := Lib.hid (HWx.out.later hb HWx.out.lt)
    clear hb
    cases v with
    | false =>
      obtain rfl : res = false := No.out fun h => by
       have h9 := (h.2.2.2 k (by have := Hm.out; omega)).1
       rw [Hx.out, Hv.out] at h9
       cases h9
      go_wp2_with fail
      go_ret
      exact ⟨by rfl, Hb3.out⟩
    | true =>
      go_wp2_with fail
      go_roundw
      case rel => exact ⟨k + 1, by omega, by go_num, (fun z hz => by
       by_cases e : z = k
       · subst e; rw [Hx.out]; exact Hv.out
       · exact Hl.out z (by omega)), Hb3.out, HW3.out⟩
      case measure => simp [intOf]; omega
  · obtain rfl : res = true := Hres.out.symm.trans (decide_eq_true ⟨cfB_ok Hok.out, ⟨hw1, hw2⟩, by rw [← Hm.out], fun i hi => ⟨Hl.out i (by have := Hm.out; omega), Hown.out i⟩⟩)
    go_wp2_with fail
    go_ret
    exact ⟨by rfl, Hb.out⟩
end Go.Proofs.YtnkgakhnlbifdaaGreat
