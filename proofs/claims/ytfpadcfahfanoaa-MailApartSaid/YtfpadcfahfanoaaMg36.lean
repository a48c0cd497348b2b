/- Merged texts: RefClaimNote, RefClaimMail. No law is proved here. -/
import Derived.Test.YtfpadcfahfanoaaMg6
import Derived.Test.YtfpadcfahfanoaaMg35
import Derived.WalkKit
import Derived.ProofKit
import Derived.OpenShut
import Derived.WalkSpells
import Derived.Lib.Hide
import Derived.Deep.Draws
import Derived.Deep.Slices
import Derived.Deep.Fields
import Derived.ChangeSame
import Derived.RegionTactic
import Derived.WalkLawsBesides
import Derived.LoopTactic
import Derived.IntWalk
import Derived.Deep.DeepCutAuto
import Derived.Test.YtfpadcfahfanoaaMg31
import Derived.Test.YtfpadcfahfanoaaRefRightsRight
import Derived.WalkSmall
/- The document's own, layer 14: may a look, may a note be. No law is proved here. -/
namespace Go.Proofs.Ytfpadcfahfanoaa
open Go.RowKit

set_option maxRecDepth 100000 in
set_option maxHeartbeats 4000000 in
theorem reflook_calls (t p : Int) (w : World) : Calls Try.prog 30 #[.agg #[.int .i64 t, .int .i64 p]] w (Says w (lookB t p)) := by
  obtain ⟨res, Hres⟩ : ∃ z, Hid (lookB t p = z) := ⟨_, rfl⟩
  rw [Hres.out]
  have yes : lookOk t p → res = true := fun h => Hres.out.symm.trans (decide_eq_true h)
  have no : ¬ lookOk t p → res = false := fun h => Hres.out.symm.trans (decide_eq_false h)
  have Yes := Lib.hid yes; have No := Lib.hid no; clear yes no
  have Hb0 := Lib.hid (below_box w (.cells #[.int .i64 t, .int .i64 p] 32))
  by_cases h1 : t = 0
  · subst h1
    by_cases h2 : p = 0
    · subst h2
      obtain rfl := Yes.out (Or.inl ⟨rfl, rfl⟩)
      go_enter Try.func30, Try.ntmps30
      go_wp2_with fail
      go_ret
      exact ⟨by rfl, Hb0.out⟩
    · obtain rfl := No.out (fun h => by rcases h with h | h <;> omega)
      have h2' : (p == 0) = false := beq_eq_false_iff_ne.2 h2
      clear h2
      go_enter Try.func30, Try.ntmps30
      go_wp2_with fail
      go_ret
      exact ⟨by rfl, Hb0.out⟩
  · have h1' : (t == 0) = false := beq_eq_false_iff_ne.2 h1
    have H1 := Lib.hid h1; clear h1
    by_cases h3 : 0 < t
    · by_cases h4 : t ≤ 1125899906842624
      · by_cases h5 : 0 < p
        · by_cases h6 : p < 3
          · obtain rfl := Yes.out (Or.inr ⟨h3, h4, h5, h6⟩)
            go_enter Try.func30, Try.ntmps30
            go_wp2_with fail
            go_ret
            exact ⟨by simp, Hb0.out⟩
          · obtain rfl := No.out (fun h => by rcases h with h | h <;> omega)
            go_enter Try.func30, Try.ntmps30
            go_wp2_with fail
            go_ret
            exact ⟨by simp, Hb0.out⟩
        · obtain rfl := No.out (fun h => by have := H1.out; rcases h with h | h <;> omega)
          go_enter Try.func30, Try.ntmps30
          go_wp2_with fail
          go_ret
          exact ⟨by simp, Hb0.out⟩
      · obtain rfl := No.out (fun h => by have := H1.out; rcases h with h | h <;> omega)
        go_enter Try.func30, Try.ntmps30
        go_wp2_with fail
        go_ret
        exact ⟨by simp, Hb0.out⟩
    · obtain rfl := No.out (fun h => by have := H1.out; rcases h with h | h <;> omega)
      go_enter Try.func30, Try.ntmps30
      go_wp2_with fail
      go_ret
      exact ⟨by simp, Hb0.out⟩
/-- a config and a note in two boxes behind what was there -/
def KeptN (w : World) (g : Nat) (c : Cf) (x : Nt) (wx : World) : Prop := Below w.heap.size w wx ∧ Whole wx g 23 (cfCells c) ∧ Whole wx (g + 1) 70 (ntCells x)
theorem KeptN.later {w : World} {g : Nat} {c : Cf} {x : Nt} {wx wy : World} (h : KeptN w g c x wx) (hb : Below wx.heap.size wx wy) : KeptN w g c x wy := ⟨held_next h.1 hb, h.2.1.later hb h.2.1.lt, h.2.2.later hb h.2.2.lt⟩
set_option maxRecDepth 100000 in
set_option maxHeartbeats 8000000 in
theorem refnote_calls (c : Cf) (who : Int) (x : Nt) (w : World) : Calls Try.prog 31 #[cfV c, .int .i64 who, ntV x] w (Says w (noteB c who x)) := by
  have HW := Lib.hid ((Whole.made w 23 (cfCells c)).alloc (.cells (ntCells x) 70))
  have HX := Lib.hid (Whole.made2 w (.cells (cfCells c) 23) 70 (ntCells x))
  have Hb0 := Lib.hid (below_two w (.cells (cfCells c) 23) (.cells (ntCells x) 70))
  obtain ⟨n, q, r, p, kk, cc⟩ := c
  obtain ⟨clk, t, a, m, asks, try_, ph⟩ := x
  obtain ⟨z0, Hz0⟩ : ∃ z, Hid (noHead ⟨clk, t, a, m, asks, try_, ph⟩ = z) := ⟨_, rfl⟩
  obtain ⟨z1, Hz1⟩ : ∃ z, Hid (hasHead ⟨n, q, r, p, kk, cc⟩ who ⟨clk, t, a, m, asks, try_, ph⟩ = z) := ⟨_, rfl⟩
  obtain ⟨z2, Hz2⟩ : ∃ z, Hid (lookB try_ ph = z) := ⟨_, rfl⟩
  obtain ⟨res, Hres⟩ : ∃ z, Hid (noteB ⟨n, q, r, p, kk, cc⟩ who ⟨clk, t, a, m, asks, try_, ph⟩ = z) := ⟨_, rfl⟩
  have hres : res = (decide (0 ≤ clk ∧ clk ≤ 1125899906842624) && ((z0 || z1) && (decide (0 ≤ asks ∧ asks ≤ r) && z2))) := by
    rw [← Hres.out, ← Hz0.out, ← Hz1.out, ← Hz2.out]; rfl
  rw [Hres.out]
  have HR := Lib.hid hres; clear hres
  have HK : Hid (KeptN w w.heap.size ⟨n, q, r, p, kk, cc⟩ ⟨clk, t, a, m, asks, try_, ph⟩ ((w.alloc (.cells (cfCells ⟨n, q, r, p, kk, cc⟩) 23)).alloc (.cells (ntCells ⟨clk, t, a, m, asks, try_, ph⟩) 70))) := ⟨Hb0.out, HW.out, HX.out⟩
  clear HW HX Hb0
  go_enter Try.func31, Try.ntmps31
  go_upto_region 1 with fail
  have hz0 : z0 = decide (t = 0 ∧ a = 0 ∧ m = 0) := Hz0.out.symm
  go_cut [7] from 9 to 26 (fun s7 wx => s7 = .bool z0 ∧ Hid (KeptN w w.heap.size ⟨n, q, r, p, kk, cc⟩ ⟨clk, t, a, m, asks, try_, ph⟩ wx))
  case first =>
    obtain ⟨e0, e1, e2, e3, e4, e5, e6⟩ := nt_cells HK.out.2.2
    simp only at e0 e1 e2 e3 e4 e5 e6
    by_cases h1 : t = 0
    · by_cases h2 : a = 0
      · by_cases h3 : m = 0
        · rw [decide_eq_true ⟨h1, h2, h3⟩] at hz0
          subst hz0 h1 h2 h3
          go_wp2_with fail
          go_meet
          exact ⟨by rfl, HK.out⟩
        · rw [decide_eq_false (fun h => h3 h.2.2)] at hz0
          subst hz0 h1 h2
          have h3' : (m == 0) = false := beq_eq_false_iff_ne.2 h3
          clear h3
          go_wp2_with fail
          go_meet
          exact ⟨by rfl, HK.out⟩
      · rw [decide_eq_false (fun h => h2 h.2.1)] at hz0
        subst hz0 h1
        have h2' : (a == 0) = false := beq_eq_false_iff_ne.2 h2
        clear h2
        go_wp2_with fail
        go_meet
        exact ⟨by rfl, HK.out⟩
    · rw [decide_eq_false (fun h => h1 h.1)] at hz0
      subst hz0
      have h1' : (t == 0) = false := beq_eq_false_iff_ne.2 h1
      clear h1
      go_wp2_with fail
      go_meet
      exact ⟨by rfl, HK.out⟩
  case rest =>
  obtain ⟨rfl, HK⟩ := hcut
  clear hz0
  obtain ⟨mv, Hmv⟩ : ∃ z, Hid (mayB t a n = z) := ⟨_, rfl⟩
  have hz1 : z1 = (mv && decide (a = who ∧ 0 < m ∧ m ≤ 1099511627776)) := by rw [← Hz1.out, ← Hmv.out]; rfl
  have Hz1' := Lib.hid hz1; clear hz1
  go_upto_region 2 with fail
  go_cut [8] from 27 to 52 (fun s8 wx => s8 = .bool z1 ∧ Hid (KeptN w w.heap.size ⟨n, q, r, p, kk, cc⟩ ⟨clk, t, a, m, asks, try_, ph⟩ wx))
  case first =>
    obtain ⟨e0, e1, e2, e3, e4, e5, e6⟩ := nt_cells HK.out.2.2
    obtain ⟨d0, d1, d2, d3, d4, d5⟩ := config_cells HK.out.2.1
    simp only at e0 e1 e2 e3 e4 e5 e6 d0 d1 d2 d3 d4 d5
    go_wp2_with fail
    refine (refstampmay_calls t a n _).mono ?_
    rintro e w1 ⟨rfl, hb⟩
    rw [Hmv.out]
    have HK1 := Lib.hid (HK.out.later hb)
    clear hb e0 e1 e2 e3 e4 e5 e6 d0 d1 d2 d3 d4 d5
    obtain ⟨e0, e1, e2, e3, e4, e5, e6⟩ := nt_cells HK1.out.2.2
    simp only at e0 e1 e2 e3 e4 e5 e6
    have hz1 := Hz1'.out
    cases mv with
    | false =>
      obtain rfl : z1 = false := hz1
      go_wp2_with fail
      go_meet
      exact ⟨by rfl, HK1.out⟩
    | true =>
      rw [Bool.true_and] at hz1
      by_cases h1 : a = who
      · by_cases h2 : 0 < m
        · by_cases h3 : m ≤ 1099511627776
          · rw [decide_eq_true ⟨h1, h2, h3⟩] at hz1
            subst hz1 h1
            go_wp2_with fail
            go_meet
            exact ⟨by simp, HK1.out⟩
          · rw [decide_eq_false (fun h => h3 h.2.2)] at hz1
            subst hz1 h1
            go_wp2_with fail
            go_meet
            exact ⟨by simp; omega, HK1.out⟩
        · rw [decide_eq_false (fun h => h2 h.2.1)] at hz1
          subst hz1 h1
          go_wp2_with fail
          go_meet
          exact ⟨by simp, HK1.out⟩
      · rw [decide_eq_false (fun h => h1 h.1)] at hz1
        subst hz1
        have h1' : (a == who) = false := beq_eq_false_iff_ne.2 h1
        clear h1
        go_wp2_with fail
        go_meet
        exact ⟨by rfl, HK1.out⟩
  case rest =>
  obtain ⟨rfl, HK⟩ := hcut
  obtain ⟨e0, e1, e2, e3, e4, e5, e6⟩ := nt_cells HK.out.2.2
  obtain ⟨d0, d1, d2, d3, d4, d5⟩ := config_cells HK.out.2.1
  simp only at e0 e1 e2 e3 e4 e5 e6 d0 d1 d2 d3 d4 d5
  by_cases h1 : 0 ≤ clk
  · by_cases h2 : clk ≤ 1125899906842624
    · cases z0 with
      | true =>
        by_cases h3 : 0 ≤ asks
        · by_cases h4 : asks ≤ r
          · have hr2 : res = z2 := by rw [HR.out, decide_eq_true ⟨h1, h2⟩, decide_eq_true ⟨h3, h4⟩]; rfl
            have Hr2 := Lib.hid hr2; clear hr2
            go_wp2_with fail
            refine (reflook_calls try_ ph _).mono ?_
            rintro e w1 ⟨rfl, hb⟩
            rw [Hz2.out]
            have HK1 := Lib.hid (HK.out.later hb)
            clear hb
            obtain rfl := Hr2.out
            go_wp2_with fail
            go_ret
            exact ⟨by simp, HK1.out.1⟩
          · obtain rfl : res = false := by rw [HR.out]; rw [decide_eq_false (p := 0 ≤ asks ∧ asks ≤ r) (fun h => h4 h.2)]; simp
            go_wp2_with fail
            go_ret
            exact ⟨by first | (simp; done) | (simp; omega), HK.out.1⟩
        · obtain rfl : res = false := by rw [HR.out]; rw [decide_eq_false (p := 0 ≤ asks ∧ asks ≤ r) (fun h => h3 h.1)]; simp
          go_wp2_with fail
          go_ret
          exact ⟨by first | (simp; done) | (simp; omega), HK.out.1⟩
      | false =>
        cases z1 with
        | true =>
          by_cases h3 : 0 ≤ asks
          · by_cases h4 : asks ≤ r
            · have hr2 : res = z2 := by rw [HR.out, decide_eq_true ⟨h1, h2⟩, decide_eq_true ⟨h3, h4⟩]; rfl
              have Hr2 := Lib.hid hr2; clear hr2
              go_wp2_with fail
              refine (reflook_calls try_ ph _).mono ?_
              rintro e w1 ⟨rfl, hb⟩
              rw [Hz2.out]
              have HK1 := Lib.hid (HK.out.later hb)
              clear hb
              obtain rfl := Hr2.out
              go_wp2_with fail
              go_ret
              exact ⟨by simp, HK1.out.1⟩
            · obtain rfl : res = false := by rw [HR.out]; rw [decide_eq_false (p := 0 ≤ asks ∧ asks ≤ r) (fun h => h4 h.2)]; simp
              go_wp2_with fail
              go_ret
              exact ⟨by first | (simp; done) | (simp; omega), HK.out.1⟩
          · obtain rfl : res = false := by rw [HR.out]; rw [decide_eq_false (p := 0 ≤ asks ∧ asks ≤ r) (fun h => h3 h.1)]; simp
            go_wp2_with fail
            go_ret
            exact ⟨by first | (simp; done) | (simp; omega), HK.out.1⟩
        | false =>
          obtain rfl : res = false := by rw [HR.out]; simp
          go_wp2_with fail
          go_ret
          exact ⟨by first | (simp; done) | (simp; omega), HK.out.1⟩
    · obtain rfl : res = false := by rw [HR.out]; rw [decide_eq_false (p := 0 ≤ clk ∧ clk ≤ 1125899906842624) (fun h => h2 h.2)]; rfl
      go_wp2_with fail
      go_ret
      exact ⟨by first | (simp; done) | (simp; omega), HK.out.1⟩
  · obtain rfl : res = false := by rw [HR.out]; rw [decide_eq_false (p := 0 ≤ clk ∧ clk ≤ 1125899906842624) (fun h => h1 h.1)]; rfl
    go_wp2_with fail
    go_ret
    exact ⟨by first | (simp; done) | (simp; omega), HK.out.1⟩
end Go.Proofs.Ytfpadcfahfanoaa

/- The document's own, layer 14: may a message be. No law is proved here. -/
namespace Go.Proofs.Ytfpadcfahfanoaa
open Go.RowKit

set_option maxRecDepth 100000 in
set_option maxHeartbeats 8000000 in
theorem refmaymail_calls (c : Cf) (x : Ml) (a1 : Option Addr) (m1 c1 : Nat) (a2 : Option Addr) (m2 c2 : Nat) (w : World) (hM : MailIn w a1 m1 c1 a2 m2 c2 x) :
    Calls Try.prog 13 #[cfV c, mlV x (.slice a1 m1 c1) (.slice a2 m2 c2)] w (Says w (mailB c x)) := by
  obtain ⟨hm1, hB1, hm2, hB2⟩ := hM
  have hbig1 : m1 ≤ 9223372036854775807 := by rw [hm1]; exact hB1.big
  have hbig2 : m2 ≤ 9223372036854775807 := by rw [hm2]; exact hB2.1
  have HK : Hid (KeptM w w.heap.size c x (.slice a1 m1 c1) (.slice a2 m2 c2) ((w.alloc (.cells (cfCells c) 23)).alloc (.cells (mlCells x (.slice a1 m1 c1) (.slice a2 m2 c2)) 35))) :=
    ⟨below_two w _ _, (Whole.made w _ _).alloc _, Whole.made2 w _ _ _⟩
  have HB1 := Lib.hid hB1; clear hB1
  have HB2 := Lib.hid hB2; clear hB2
  have Hm1 := Lib.hid hm1; clear hm1
  have Hm2 := Lib.hid hm2; clear hm2
  obtain ⟨n, q, r, p, kk, cc⟩ := c
  obtain ⟨fr, tg, clk, rows, t, a, m, asks, try_, ph, echo⟩ := x
  obtain ⟨res, Hres⟩ : ∃ z, Hid (mailB ⟨n, q, r, p, kk, cc⟩ ⟨fr, tg, clk, rows, t, a, m, asks, try_, ph, echo⟩ = z) := ⟨_, rfl⟩
  have no : ¬ mailOk ⟨n, q, r, p, kk, cc⟩ ⟨fr, tg, clk, rows, t, a, m, asks, try_, ph, echo⟩ → res = false := fun h => Hres.out.symm.trans (mailB_no h)
  have No := Lib.hid no; clear no
  rw [Hres.out]
  obtain ⟨ok, Hok⟩ : ∃ z, Hid (rightB ⟨n, q, r, p, kk, cc⟩ rows = z) := ⟨_, rfl⟩
  go_enter Try.func13, Try.ntmps13
  go_wp2_with fail
  refine (refright_calls ⟨n, q, r, p, kk, cc⟩ a1 m1 c1 rows Hm1.out _ (HB1.out.later HK.out.1)).mono ?_
  rintro e w1 ⟨rfl, hb⟩
  rw [Hok.out]
  have HK1 := Lib.hid (HK.out.later hb)
  clear hb HK
  obtain ⟨d0, d1, d2, d3, d4, d5⟩ := config_cells HK1.out.2.1
  obtain ⟨e0, e1, e2, e3, e4, e5, e6, e7, e8, e9, e10⟩ := ml_cells HK1.out.2.2
  simp only at d0 d1 d2 d3 d4 d5 e0 e1 e2 e3 e4 e5 e6 e7 e8 e9 e10
  cases ok with
  | false =>
    obtain rfl : res = false := No.out fun h => by
      have : rightB ⟨n, q, r, p, kk, cc⟩ rows = true := decide_eq_true h.1
      rw [Hok.out] at this
      cases this
    go_wp2_with fail
    go_ret
    exact ⟨by rfl, HK1.out.1⟩
  | true =>
    by_cases h1 : fr < 0
    · obtain rfl : res = false := No.out fun h => by have h3 : 0 ≤ fr := h.2.1.1; omega
      go_wp2_with fail
      go_ret
      exact ⟨by rfl, HK1.out.1⟩
    by_cases h2 : n ≤ fr
    · obtain rfl : res = false := No.out fun h => by have h3 : fr < n := h.2.1.2; omega
      go_wp2_with fail
      go_ret
      exact ⟨by rfl, HK1.out.1⟩
    by_cases h3 : tg < 0
    · obtain rfl : res = false := No.out fun h => by have h3 : 0 ≤ tg := h.2.2.1.1; omega
      go_wp2_with fail
      go_ret
      exact ⟨by rfl, HK1.out.1⟩
    by_cases h4 : n ≤ tg
    · obtain rfl : res = false := No.out fun h => by have h3 : tg < n := h.2.2.1.2; omega
      go_wp2_with fail
      go_ret
      exact ⟨by rfl, HK1.out.1⟩
    by_cases h5 : fr = tg
    · obtain rfl : res = false := No.out fun h => h.2.2.2.1 h5
      subst h5
      go_wp2_with fail
      go_ret
      exact ⟨by rfl, HK1.out.1⟩
    have h5' : (fr == tg) = false := beq_eq_false_iff_ne.2 h5
    by_cases h6 : clk = 0
    · obtain rfl : res = false := No.out fun h => h.2.2.2.2.1 h6
      subst h6
      clear h5
      go_wp2_with fail
      go_ret
      exact ⟨by rfl, HK1.out.1⟩
    have h6' : (clk == 0) = false := beq_eq_false_iff_ne.2 h6
    by_cases h7 : ¬ (m2 : Int) = n
    · obtain rfl : res = false := No.out fun h => h7 (by have := h.2.2.2.2.2.1; rw [Hm2.out]; exact this)
      have h7' : ((m2 : Int) != n) = true := bne_iff_ne.2 h7
      clear h5 h6 h7
      go_wp2_with fail
      go_ret
      exact ⟨by rfl, HK1.out.1⟩
    have h7' : (m2 : Int) = n := by omega
    have Hro := Lib.hid (rightB_ok Hok.out)
    have hn16 : n ≤ 16 := Hro.out.1.2.1
    have H56 := Lib.hid (And.intro h5 h6)
    subst h7'
    have hf1 : 0 ≤ fr := by omega
    have hf2 : fr < (m2 : Int) := by omega
    have ht1 : 0 ≤ tg := by omega
    have ht2 : tg < (m2 : Int) := by omega
    clear h1 h2 h3 h4 h5 h6 h7
    go_wp2_with fail
    clear d0 d1 d2 d3 d4 d5 e0 e1 e2 e3 e4 e5 e6 e7 e8 e9 e10
    go_loopw [5] (fun s5 wr => ∃ k : Nat, k ≤ m2 ∧ s5 = .int .i64 k ∧ Hid (∀ i, i < k → lookB (lkAt echo i).1 (lkAt echo i).2 = true ∧ ((i : Int) = fr → (lkAt echo i).2 ≤ 0)) ∧ Hid (KeptM w w.heap.size ⟨m2, q, r, p, kk, cc⟩ ⟨fr, tg, clk, rows, t, a, m, asks, try_, ph, echo⟩ (.slice a1 m1 c1) (.slice a2 m2 c2) wr)) (fun s5 _ => m2 - (intOf s5).toNat)
    case atStart => exact ⟨0, Nat.zero_le _, rfl, fun z hz => absurd hz (Nat.not_lt_zero _), HK1.out⟩
    case round =>
      obtain ⟨k, hk, rfl, Hl, HKr⟩ := hrel
      obtain ⟨d0, d1, d2, d3, d4, d5⟩ := config_cells HKr.out.2.1
      obtain ⟨e0, e1, e2, e3, e4, e5, e6, e7, e8, e9, e10⟩ := ml_cells HKr.out.2.2
      simp only at d0 d1 d2 d3 d4 d5 e0 e1 e2 e3 e4 e5 e6 e7 e8 e9 e10
      by_cases hlt : k < m2
      · obtain ⟨b, off, rfl, g0, g1⟩ := (HB2.out.later HKr.out.1).at (i := k) (by have := Hm2.out; omega)
        obtain ⟨y, Hy⟩ : ∃ z, Hid (lkAt echo k = z) := ⟨_, rfl⟩
        rw [Hy.out] at g0 g1
        obtain ⟨y1, y2⟩ := y
        simp only at g0 g1
        obtain ⟨v, Hv⟩ : ∃ z, Hid (lookB y1 y2 = z) := ⟨_, rfl⟩
        have k0 : (0 : Int) ≤ (k : Int) := by omega
        have k1 : (k : Int) < (m2 : Int) := by omega
        go_wp2_with fail
        refine (reflook_calls y1 y2 _).mono ?_
        rintro e w2 ⟨rfl, hb⟩
        rw [Hv.out]
        have HK2 := Lib.hid (HKr.out.later hb)
        replace g0 := cell_later hb g0
        replace g1 := cell_later hb g1
        clear hb d0 d1 d2 d3 d4 d5 e0 e1 e2 e3 e4 e5 e6 e7 e8 e9 e10
        obtain ⟨d0, d1, d2, d3, d4, d5⟩ := config_cells HK2.out.2.1
        obtain ⟨e0, e1, e2, e3, e4, e5, e6, e7, e8, e9, e10⟩ := ml_cells HK2.out.2.2
        simp only at d0 d1 d2 d3 d4 d5 e0 e1 e2 e3 e4 e5 e6 e7 e8 e9 e10
        cases v with
        | false =>
          obtain rfl : res = false := No.out fun h => by
            have := (h.2.2.2.2.2.2.1 k (by have := Hm2.out; show k < echo.length; omega)).1
            have h9 : lookB (lkAt echo k).1 (lkAt echo k).2 = true := this
            rw [Hy.out, Hv.out] at h9
            cases h9
          go_wp2_with fail
          go_ret
          exact ⟨by rfl, HK2.out.1⟩
        | true =>
          by_cases hkf : (k : Int) = fr
          · have hkf' : ((k : Int) == fr) = true := beq_iff_eq.2 hkf
            have Hkf := Lib.hid hkf; clear hkf
            by_cases hy2 : 0 < y2
            · obtain rfl : res = false := No.out fun h => by
                have h9 : ¬ 0 < (lkAt echo k).2 := (h.2.2.2.2.2.2.1 k (by have := Hm2.out; show k < echo.length; omega)).2 Hkf.out
                rw [Hy.out] at h9
                exact h9 hy2
              go_wp2_with fail
              go_ret
              exact ⟨by rfl, HK2.out.1⟩
            · have hy2' : ¬ 0 < y2 := hy2
              have Hy2 := Lib.hid hy2'
              clear hy2'
              go_wp2_with fail
              go_roundw
              case rel => exact ⟨k + 1, by omega, by go_num, (fun z hz => by
                by_cases e : z = k
                · subst e; rw [Hy.out]; exact ⟨Hv.out, fun _ => show y2 ≤ 0 by have := Hy2.out; omega⟩
                · exact Hl.out z (by omega)), HK2.out⟩
              case measure => simp [intOf]; omega
          · have hkf' : ((k : Int) == fr) = false := beq_eq_false_iff_ne.2 hkf
            have Hkf := Lib.hid hkf; clear hkf
            go_wp2_with fail
            go_roundw
            case rel => exact ⟨k + 1, by omega, by go_num, (fun z hz => by
              by_cases e : z = k
              · subst e; rw [Hy.out]; exact ⟨Hv.out, fun h => absurd h Hkf.out⟩
              · exact Hl.out z (by omega)), HK2.out⟩
            case measure => simp [intOf]; omega
      · have hall : ∀ i, i < echo.length → lookB (lkAt echo i).1 (lkAt echo i).2 = true ∧ ((i : Int) = fr → ¬ 0 < (lkAt echo i).2) := fun i hi => ⟨(Hl.out i (by have := Hm2.out; omega)).1, fun h => Int.not_lt.2 ((Hl.out i (by have := Hm2.out; omega)).2 h)⟩
        have hres : res = noteB ⟨m2, q, r, p, kk, cc⟩ fr ⟨clk, t, a, m, asks, try_, ph⟩ := by
          by_cases hnb : noteB ⟨m2, q, r, p, kk, cc⟩ fr ⟨clk, t, a, m, asks, try_, ph⟩ = true
          · rw [hnb]
            exact Hres.out.symm.trans (decide_eq_true ⟨Hro.out, ⟨hf1, hf2⟩, ⟨ht1, ht2⟩, H56.out.1, H56.out.2, by show (echo.length : Int) = m2; rw [← Hm2.out], hall, hnb⟩)
          · rw [Bool.eq_false_iff.2 hnb]
            exact No.out fun h => hnb h.2.2.2.2.2.2.2
        have HR := Lib.hid hres; clear hres
        go_wp2_with fail
        refine (refnote_calls ⟨m2, q, r, p, kk, cc⟩ fr ⟨clk, t, a, m, asks, try_, ph⟩ _).mono ?_
        rintro e w2 ⟨rfl, hb⟩
        have HK2 := Lib.hid (HKr.out.later hb)
        rw [← HR.out]
        clear hb
        go_wp2_with fail
        go_ret
        exact ⟨by rfl, HK2.out.1⟩
end Go.Proofs.Ytfpadcfahfanoaa
