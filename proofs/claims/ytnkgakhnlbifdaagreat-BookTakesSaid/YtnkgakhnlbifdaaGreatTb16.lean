/- Parts, as far as BookTakesCards reaches them, of: RefClaimNote. No law is proved here. -/
import Derived.Test.YtnkgakhnlbifdaaGreatTb1
import Derived.Test.YtnkgakhnlbifdaaGreatTb14
import Derived.WalkKit
import Derived.ProofKit
import Derived.OpenShut
import Derived.WalkSpells
import Derived.Lib.Hide
import Derived.Deep.Draws
import Derived.Deep.Slices
import Derived.Deep.Fields
import Derived.ChangeSame
import Derived.RegionTactic
import Derived.WalkLawsBesides
import Derived.LoopTactic
import Derived.IntWalk
import Derived.Deep.DeepCutAuto
namespace Go.Proofs.YtnkgakhnlbifdaaGreat
open Go.RowKit
set_option maxRecDepth 100000 in
set_option maxHeartbeats 4000000 in
theorem reflook_calls (t p : Int) (w : World) : Calls Tryz.prog 108 #[.agg #[.int .i64 t, .int .i64 p]] w (Says w (lookB t p)) := by
 obtain ⟨res, Hres⟩ : ∃ z, Hid (lookB t p = z) := ⟨_, rfl⟩
 rw [Hres.out]
 have yes : lookOk t p → res = true := fun h => Hres.out.symm.trans (decide_eq_true h)
 have no : ¬ lookOk t p → res = false := fun h => Hres.out.symm.trans (decide_eq_false h)
 have Yes := Lib.hid yes; have No := Lib.hid no; clear yes no
 have Hb0 := Lib.hid (below_box w (.cells #[.int .i64 t, .int .i64 p] 31))
 by_cases h1 : t = 0
 · subst h1
   by_cases h2 : p = 0
   · subst h2
     obtain rfl := Yes.out (Or.inl ⟨rfl, rfl⟩)
     go_enter Tryz.func108, Tryz.ntmps108
     go_wp2_with fail
     go_ret
     exact ⟨by rfl, Hb0.out⟩
   · obtain rfl := No.out (fun h => by rcases h with h | h <;> omega)
     have h2' : (p == 0) = false := beq_eq_false_iff_ne.2 h2
     clear h2
     go_enter Tryz.func108, Tryz.ntmps108
     go_wp2_with fail
     go_ret
     exact ⟨by rfl, Hb0.out⟩
 · have h1' : (t == 0) = false := beq_eq_false_iff_ne.2 h1
   have H1 := Lib.hid h1; clear h1
   by_cases h3 : 0 < t
   · by_cases h4 : t ≤ 1125899906842624
     · by_cases h5 : 0 < p
       · by_cases h6 : p < 3
         · obtain rfl := Yes.out (Or.inr ⟨h3, h4, h5, h6⟩)
           go_enter Tryz.func108, Tryz.ntmps108
           go_wp2_with fail
           go_ret
           exact ⟨by simp, Hb0.out⟩
         · obtain rfl := No.out (fun h => by rcases h with h | h <;> omega)
           go_enter Tryz.func108, Tryz.ntmps108
           go_wp2_with fail
           go_ret
           exact ⟨by simp, Hb0.out⟩
       · obtain rfl := No.out (fun h => by have := H1.out; rcases h with h | h <;> omega)
         go_enter Tryz.func108, Tryz.ntmps108
         go_wp2_with fail
         go_ret
         exact ⟨by simp, Hb0.out⟩
     · obtain rfl := No.out (fun h => by have := H1.out; rcases h with h | h <;> omega)
       go_enter Tryz.func108, Tryz.ntmps108
       go_wp2_with fail
       go_ret
       exact ⟨by simp, Hb0.out⟩
   · obtain rfl := No.out (fun h => by have := H1.out; rcases h with h | h <;> omega)
     go_enter Tryz.func108, Tryz.ntmps108
     go_wp2_with fail
     go_ret
     exact ⟨by simp, Hb0.out⟩
def KeptN (w : World) (g : Nat) (c : Cf) (x : Nt) (wx : World) : Prop := Below w.heap.size w wx ∧ Whole wx g 23 (cfCells c) ∧ Whole wx (g + 1) 71 (ntCells x)
theorem KeptN.later {w : World} {g : Nat} {c : Cf} {x : Nt} {wx wy : World} (h : KeptN w g c x wx) (hb : Below wx.heap.size wx wy) : KeptN w g c x wy := ⟨held_next h.1 hb, h.2.1.later hb h.2.1.lt, h.2.2.later hb h.2.2.lt⟩
set_option maxRecDepth 100000 in
set_option maxHeartbeats 8000000 in
theorem refnote_calls (c : Cf) (who : Int) (x : Nt) (w : World) : Calls Tryz.prog 85 #[cfV c, .int .i64 who, ntV x] w (Says w (noteB c who x)) := by
 have HW := Lib.hid ((Whole.made w 23 (cfCells c)).alloc (.cells (ntCells x) 71))
 have HX := Lib.hid (Whole.made2 w (.cells (cfCells c) 23) 71 (ntCells x))
 have Hb0 := Lib.hid (below_two w (.cells (cfCells c) 23) (.cells (ntCells x) 71))
 obtain ⟨n, q, r, p, kk, cc⟩ := c
 obtain ⟨clk, t, a, m, asks, try_, ph⟩ := x
 obtain ⟨z0, Hz0⟩ : ∃ z, Hid (noHead ⟨clk, t, a, m, asks, try_, ph⟩ = z) := ⟨_, rfl⟩
 obtain ⟨z1, Hz1⟩ : ∃ z, Hid (hasHead ⟨n, q, r, p, kk, cc⟩ who ⟨clk, t, a, m, asks, try_, ph⟩ = z) := ⟨_, rfl⟩
 obtain ⟨z2, Hz2⟩ : ∃ z, Hid (lookB try_ ph = z) := ⟨_, rfl⟩
 obtain ⟨res, Hres⟩ : ∃ z, Hid (noteB ⟨n, q, r, p, kk, cc⟩ who ⟨clk, t, a, m, asks, try_, ph⟩ = z) := ⟨_, rfl⟩
 have hres : res = (decide (0 ≤ clk ∧ clk ≤ 1125899906842624) && ((z0 || z1) && (decide (0 ≤ asks ∧ asks ≤ r) && z2))) := by
  rw [← Hres.out, ← Hz0.out, ← Hz1.out, ← Hz2.out]; rfl
 rw [Hres.out]
 have HR := Lib.hid hres; clear hres
 have HK : Hid (KeptN w w.heap.size ⟨n, q, r, p, kk, cc⟩ ⟨clk, t, a, m, asks, try_, ph⟩ ((w.alloc (.cells (cfCells ⟨n, q, r, p, kk, cc⟩) 23)).alloc (.cells (ntCells ⟨clk, t, a, m, asks, try_, ph⟩) 71))) := ⟨Hb0.out, HW.out, HX.out⟩
 clear HW HX Hb0
 go_enter Tryz.func85, Tryz.ntmps85
 go_upto_region 1 with fail
 have hz0 : z0 = decide (t = 0 ∧ a = 0 ∧ m = 0) := Hz0.out.symm
 go_cut [7] from 9 to 26 (fun s7 wx => s7 = .bool z0 ∧ Hid (KeptN w w.heap.size ⟨n, q, r, p, kk, cc⟩ ⟨clk, t, a, m, asks, try_, ph⟩ wx))
 case first =>
  obtain ⟨e0, e1, e2, e3, e4, e5, e6⟩ := nt_cells HK.out.2.2
  simp only at e0 e1 e2 e3 e4 e5 e6
  by_cases h1 : t = 0
  · by_cases h2 : a = 0
    · by_cases h3 : m = 0
      · rw [decide_eq_true ⟨h1, h2, h3⟩] at hz0
        subst hz0 h1 h2 h3
        go_wp2_with fail
        go_meet
        exact ⟨by rfl, HK.out⟩
      · rw [decide_eq_false (fun h => h3 h.2.2)] at hz0
        subst hz0 h1 h2
        have h3' : (m == 0) = false := beq_eq_false_iff_ne.2 h3
        clear h3
        go_wp2_with fail
        go_meet
        exact ⟨by rfl, HK.out⟩
    · rw [decide_eq_false (fun h => h2 h.2.1)] at hz0
      subst hz0 h1
      have h2' : (a == 0) = false := beq_eq_false_iff_ne.2 h2
      clear h2
      go_wp2_with fail
      go_meet
      exact ⟨by rfl, HK.out⟩
  · rw [decide_eq_false (fun h => h1 h.1)] at hz0
    subst hz0
    have h1' : (t == 0) = false := beq_eq_false_iff_ne.2 h1
    clear h1
    go_wp2_with fail
    go_meet
    exact ⟨by rfl, HK.out⟩
 case rest =>
 obtain ⟨rfl, HK⟩ := hcut
 clear hz0
 obtain ⟨mv, Hmv⟩ : ∃ z, Hid (mayB t a n = z) := ⟨_, rfl⟩
 have hz1 : z1 = (mv && decide (a = who ∧ 0 < m ∧ m ≤ 1099511627776)) := by rw [← Hz1.out, ← Hmv.out]; rfl
 have Hz1' := Lib.hid hz1; clear hz1
 go_upto_region 2 with fail
 go_cut [8] from 27 to 52 (fun s8 wx => s8 = .bool z1 ∧ Hid (KeptN w w.heap.size ⟨n, q, r, p, kk, cc⟩ ⟨clk, t, a, m, asks, try_, ph⟩ wx))
 case first =>
  obtain ⟨e0, e1, e2, e3, e4, e5, e6⟩ := nt_cells HK.out.2.2
  obtain ⟨d0, d1, d2, d3, d4, d5⟩ := config_cells HK.out.2.1
  simp only at e0 e1 e2 e3 e4 e5 e6 d0 d1 d2 d3 d4 d5
  go_wp2_with fail
  refine (refstampmay_calls t a n _).mono ?_
  rintro e w1 ⟨rfl, hb⟩
  rw [Hmv.out]
  have HK1 := Lib.hid (HK.out.later hb)
  clear hb e0 e1 e2 e3 e4 e5 e6 d0 d1 d2 d3 d4 d5
  obtain ⟨e0, e1, e2, e3, e4, e5, e6⟩ := nt_cells HK1.out.2.2
  simp only at e0 e1 e2 e3 e4 e5 e6
  have hz1 := Hz1'.out
  cases mv with
  | false =>
    obtain rfl : z1 = false := hz1
    go_wp2_with fail
    go_meet
    exact ⟨by rfl, HK1.out⟩
  | true =>
    rw [Bool.true_and] at hz1
    by_cases h1 : a = who
    · by_cases h2 : 0 < m
      · by_cases h3 : m ≤ 1099511627776
        · rw [decide_eq_true ⟨h1, h2, h3⟩] at hz1
          subst hz1 h1
          go_wp2_with fail
          go_meet
          exact ⟨by simp, HK1.out⟩
        · rw [decide_eq_false (fun h => h3 h.2.2)] at hz1
          subst hz1 h1
          go_wp2_with fail
          go_meet
          exact ⟨by simp; omega, HK1.out⟩
      · rw [decide_eq_false (fun h => h2 h.2.1)] at hz1
        subst hz1 h1
        go_wp2_with fail
        go_meet
        exact ⟨by simp, HK1.out⟩
    · rw [decide_eq_false (fun h => h1 h.1)] at hz1
      subst hz1
      have h1' : (a == who) = false := beq_eq_false_iff_ne.2 h1
      clear h1
      go_wp2_with fail
      go_meet
      exact ⟨by rfl, HK1.out⟩
 case rest =>
 obtain ⟨rfl, HK⟩ := hcut
 obtain ⟨e0, e1, e2, e3, e4, e5, e6⟩ := nt_cells HK.out.2.2
 obtain ⟨d0, d1, d2, d3, d4, d5⟩ := config_cells HK.out.2.1
 simp only at e0 e1 e2 e3 e4 e5 e6 d0 d1 d2 d3 d4 d5
 by_cases h1 : 0 ≤ clk
 · by_cases h2 : clk ≤ 1125899906842624
   · cases z0 with
     | true =>
       by_cases h3 : 0 ≤ asks
       · by_cases h4 : asks ≤ r
         · have hr2 : res = z2 := by rw [HR.out, decide_eq_true ⟨h1, h2⟩, decide_eq_true ⟨h3, h4⟩]; rfl
           have Hr2 := Lib.hid hr2; clear hr2
           go_wp2_with fail
           refine (reflook_calls try_ ph _).mono ?_
           rintro e w1 ⟨rfl, hb⟩
           rw [Hz2.out]
           have HK1 := Lib.hid (HK.out.later hb)
           clear hb
           obtain rfl := Hr2.out
           go_wp2_with fail
           go_ret
           exact ⟨by simp, HK1.out.1⟩
         · obtain rfl : res = false := by rw [HR.out]; rw [decide_eq_false (p := 0 ≤ asks ∧ asks ≤ r) (fun h => h4 h.2)]; simp
           go_wp2_with fail
           go_ret
           exact ⟨by first | (simp; done) | (simp; omega), HK.out.1⟩
       · obtain rfl : res = false := by rw [HR.out]; rw [decide_eq_false (p := 0 ≤ asks ∧ asks ≤ r) (fun h => h3 h.1)]; simp
         go_wp2_with fail
         go_ret
         exact ⟨by first | (simp; done) | (simp; omega), HK.out.1⟩
     | false =>
       cases z1 with
       | true =>
         by_cases h3 : 0 ≤ asks
         · by_cases h4 : asks ≤ r
           · have hr2 : res = z2 := by rw [HR.out, decide_eq_true ⟨h1, h2⟩, decide_eq_true ⟨h3, h4⟩]; rfl
             have Hr2 := Lib.hid hr2; clear hr2
             go_wp2_with fail
             refine (reflook_calls try_ ph _).mono ?_
             rintro e w1 ⟨rfl, hb⟩
             rw [Hz2.out]
             have HK1 := Lib.hid (HK.out.later hb)
             clear hb
             obtain rfl := Hr2.out
             go_wp2_with fail
             go_ret
             exact ⟨by simp, HK1.out.1⟩
           · obtain rfl : res = false := by rw [HR.out]; rw [decide_eq_false (p := 0 ≤ asks ∧ asks ≤ r) (fun h => h4 h.2)]; simp
             go_wp2_with fail
             go_ret
             exact ⟨by first | (simp; done) | (simp; omega), HK.out.1⟩
         · obtain rfl : res = false := by rw [HR.out]; rw [decide_eq_false (p := 0 ≤ asks ∧ asks ≤ r) (fun h => h3 h.1)]; simp
           go_wp2_with fail
           go_ret
           exact ⟨by first | (simp; done) | (simp; omega), HK.out.1⟩
       | false =>
         obtain rfl : res = false := by rw [HR.out]; simp
         go_wp2_with fail
         go_ret
         exact ⟨by first | (simp; done) | (simp; omega), HK.out.1⟩
   · obtain rfl : res = false := by rw [HR.out]; rw [decide_eq_false (p := 0 ≤ clk ∧ clk ≤ 1125899906842624) (fun h => h2 h.2)]; rfl
     go_wp2_with fail
     go_ret
     exact ⟨by first | (simp; done) | (simp; omega), HK.out.1⟩
 · obtain rfl : res = false := by rw [HR.out]; rw [decide_eq_false (p := 0 ≤ clk ∧ clk ≤ 1125899906842624) (fun h => h1 h.1)]; rfl
   go_wp2_with fail
   go_ret
   exact ⟨by first | (simp; done) | (simp; omega), HK.out.1⟩
end Go.Proofs.YtnkgakhnlbifdaaGreat
