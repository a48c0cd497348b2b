/- Parts, as far as BookTakesCards reaches them, of: AuditBox, RefAuditNone, RefAuditMay, RefBookMay. No law is proved here. -/
import Derived.Test.YtnkgakhnlbifdaaGreatTb1
import Derived.WalkKit
import Derived.ProofKit
import Derived.OpenShut
import Derived.WalkSpells
import Derived.Lib.Hide
import Derived.Deep.Draws
import Derived.Deep.Slices
import Derived.Deep.Fields
import Derived.ChangeSame
import Derived.RegionTactic
import Derived.WalkLawsBesides
import Derived.LoopTactic
import Derived.IntWalk
import Derived.Deep.DeepCutAuto
import Derived.Test.YtnkgakhnlbifdaaGreatTb2
import Derived.WalkSmall
import Derived.Test.YtnkgakhnlbifdaaGreatTb15
import Derived.Test.YtnkgakhnlbifdaaGreatTb17
import Derived.Test.YtnkgakhnlbifdaaGreatTb14
import Derived.Deep.QuietTactic
import Derived.BigQuiet
namespace Go.Proofs.YtnkgakhnlbifdaaGreat
open Go.RowKit
def KeptA (w : World) (g : Nat) (c : Cf) (x : Au) (p : Al) (wx : World) : Prop :=
 Below w.heap.size w wx ∧ Whole wx g 23 (cfCells c) ∧ Whole wx (g + 1) 35 (auCells x (.slice p.a1 p.m1 p.c1) (.slice p.a2 p.m2 p.c2) (.slice p.a3 p.m3 p.c3))
theorem KeptA.later {w : World} {g : Nat} {c : Cf} {x : Au} {p : Al} {wx wy : World} (h : KeptA w g c x p wx) (hb : Below wx.heap.size wx wy) : KeptA w g c x p wy := ⟨held_next h.1 hb, h.2.1.later hb h.2.1.lt, h.2.2.later hb h.2.2.lt⟩
theorem au_cells {w : World} {g : Nat} {x : Au} {tv uv iv : Value} (h : Whole w g 35 (auCells x tv uv iv)) :
 w.cell? ⟨g, 0, none⟩ = some (.int .i64 x.try_) ∧ w.cell? ⟨g, 1, none⟩ = some (.int .i64 x.ph) ∧ w.cell? ⟨g, 2, none⟩ = some tv ∧ w.cell? ⟨g, 3, none⟩ = some uv ∧ w.cell? ⟨g, 4, none⟩ = some iv ∧ w.cell? ⟨g, 5, none⟩ = some (.bool x.moved) :=
 ⟨h.cell 0, h.cell 1, h.cell 2, h.cell 3, h.cell 4, h.cell 5⟩
end Go.Proofs.YtnkgakhnlbifdaaGreat
namespace Go.Proofs.YtnkgakhnlbifdaaGreat
open Go.RowKit
set_option maxRecDepth 100000 in
set_option maxHeartbeats 4000000 in
theorem refnone_calls (x : Au) (p : Al) (w : World) (h1 : p.m1 = x.told.length) (h2 : p.m2 = x.use.length) (h3 : p.m3 = x.inc.length) (hb : p.m1 ≤ 9223372036854775807 ∧ p.m2 ≤ 9223372036854775807 ∧ p.m3 ≤ 9223372036854775807) :
 Calls Tryz.prog 41 #[auAt x p] w (Says w (noneA x)) := by
 have Hb0 := Lib.hid (below_box w (.cells (auCells x (.slice p.a1 p.m1 p.c1) (.slice p.a2 p.m2 p.c2) (.slice p.a3 p.m3 p.c3)) 35))
 obtain ⟨tr, ph, told, use, inc, moved⟩ := x
 obtain ⟨a1, m1, c1, a2, m2, c2, a3, m3, c3⟩ := p
 obtain ⟨hb1, hb2, hb3⟩ := hb
 simp only at h1 h2 h3 hb1 hb2 hb3
 obtain ⟨res, Hres⟩ : ∃ z, Hid (noneA ⟨tr, ph, told, use, inc, moved⟩ = z) := ⟨_, rfl⟩
 rw [Hres.out]
 have hr : res = decide (tr = 0 ∧ ph = 0 ∧ m1 = 0 ∧ m2 = 0 ∧ m3 = 0 ∧ moved = false) := by
  rw [← Hres.out, h1, h2, h3]
  unfold noneA
  simp only [Au.mk.injEq, List.length_eq_zero_iff]
 have HR := Lib.hid hr
 clear hr h1 h2 h3
 go_enter Tryz.func41, Tryz.ntmps41
 by_cases k1 : tr = 0
 · subst k1
   by_cases k2 : ph = 0
   · subst k2
     by_cases k3 : m1 = 0
     · subst k3
       by_cases k4 : m2 = 0
       · subst k4
         by_cases k5 : m3 = 0
         · subst k5
           cases moved with
           | false =>
             obtain rfl : res = true := by rw [HR.out]; simp
             go_wp2_with fail
             go_ret
             exact ⟨by rfl, Hb0.out⟩
           | true =>
             obtain rfl : res = false := by rw [HR.out]; simp
             go_wp2_with fail
             go_ret
             exact ⟨by rfl, Hb0.out⟩
         · obtain rfl : res = false := by rw [HR.out]; simp [k5]
           have k5' : ((m3 : Int) == 0) = false := beq_eq_false_iff_ne.2 (by omega)
           clear k5
           go_wp2_with fail
           go_ret
           exact ⟨by rfl, Hb0.out⟩
       · obtain rfl : res = false := by rw [HR.out]; simp [k4]
         have k4' : ((m2 : Int) == 0) = false := beq_eq_false_iff_ne.2 (by omega)
         clear k4
         go_wp2_with fail
         go_ret
         exact ⟨by rfl, Hb0.out⟩
     · obtain rfl : res = false := by rw [HR.out]; simp [k3]
       have k3' : ((m1 : Int) == 0) = false := beq_eq_false_iff_ne.2 (by omega)
       clear k3
       go_wp2_with fail
       go_ret
       exact ⟨by rfl, Hb0.out⟩
   · obtain rfl : res = false := by rw [HR.out]; simp [k2]
     have k2' : (ph == 0) = false := beq_eq_false_iff_ne.2 k2
     clear k2
     go_wp2_with fail
     go_ret
     exact ⟨by rfl, Hb0.out⟩
 · obtain rfl : res = false := by rw [HR.out]; simp [k1]
   have k1' : (tr == 0) = false := beq_eq_false_iff_ne.2 k1
   clear k1
   go_wp2_with fail
   go_ret
   exact ⟨by rfl, Hb0.out⟩
end Go.Proofs.YtnkgakhnlbifdaaGreat
namespace Go.Proofs.YtnkgakhnlbifdaaGreat
open Go.RowKit
set_option maxRecDepth 100000 in
set_option maxHeartbeats 8000000 in
theorem refauditmay_calls (c : Cf) (who : Int) (x : Au) (p : Al) (w : World) (hA : AuIn w p x) :
 Calls Tryz.prog 52 #[cfV c, .int .i64 who, auAt x p] w (Says w (auB c who x)) := by
 have HK : Hid (KeptA w w.heap.size c x p ((w.alloc (.cells (cfCells c) 23)).alloc (.cells (auCells x (.slice p.a1 p.m1 p.c1) (.slice p.a2 p.m2 p.c2) (.slice p.a3 p.m3 p.c3)) 35))) :=
  ⟨below_two w _ _, (Whole.made w _ _).alloc _, Whole.made2 w _ _ _⟩
 have hbig : p.m1 ≤ 9223372036854775807 ∧ p.m2 ≤ 9223372036854775807 ∧ p.m3 ≤ 9223372036854775807 := ⟨by rw [hA.1.1]; exact hA.1.2.1, by rw [hA.2.1.1]; exact hA.2.1.2.1, by rw [hA.2.2.1]; exact hA.2.2.2.1⟩
 have hnone := fun w => refnone_calls x p w hA.1.1 hA.2.1.1 hA.2.2.1 hbig
 have HA := Lib.hid hA; clear hA
 obtain ⟨a1, m1, c1, a2, m2, c2, a3, m3, c3⟩ := p
 obtain ⟨n, q, r, p, kk, cc⟩ := c
 obtain ⟨tr, ph, told, use, inc, moved⟩ := x
 obtain ⟨hb1, hb2, hb3⟩ := hbig
 simp only at hb1 hb2 hb3
 obtain ⟨res, Hres⟩ : ∃ z, Hid (auB ⟨n, q, r, p, kk, cc⟩ who ⟨tr, ph, told, use, inc, moved⟩ = z) := ⟨_, rfl⟩
 have no : ¬ auOk ⟨n, q, r, p, kk, cc⟩ who ⟨tr, ph, told, use, inc, moved⟩ → res = false := fun h => Hres.out.symm.trans (auB_no h)
 have yes : auOk ⟨n, q, r, p, kk, cc⟩ who ⟨tr, ph, told, use, inc, moved⟩ → res = true := fun h => Hres.out.symm.trans (decide_eq_true h)
 have No := Lib.hid no; have Yes := Lib.hid yes; clear no yes
 rw [Hres.out]
 obtain ⟨ok, Hok⟩ : ∃ z, Hid (cfB ⟨n, q, r, p, kk, cc⟩ = z) := ⟨_, rfl⟩
 obtain ⟨nn, Hnn⟩ : ∃ z, Hid (noneA ⟨tr, ph, told, use, inc, moved⟩ = z) := ⟨_, rfl⟩
 have Hnone := Lib.hid hnone; clear hnone
 go_enter Tryz.func52, Tryz.ntmps52
 go_wp2_with fail
 refine (refcfg_calls ⟨n, q, r, p, kk, cc⟩ _).mono ?_
 rintro e w1 ⟨rfl, hb⟩
 rw [Hok.out]
 have HK1 := Lib.hid (HK.out.later hb)
 clear hb HK
 obtain ⟨d0, d1, d2, d3, d4, d5⟩ := config_cells HK1.out.2.1
 obtain ⟨e0, e1, e2, e3, e4, e5⟩ := au_cells HK1.out.2.2
 simp only at d0 d1 d2 d3 d4 d5 e0 e1 e2 e3 e4 e5
 cases ok with
 | false =>
   obtain rfl : res = false := No.out fun h => by
    have := cfB_yes h.1
    rw [Hok.out] at this
    cases this
   go_wp2_with fail
   go_ret
   exact ⟨by rfl, HK1.out.1⟩
 | true =>
 by_cases h1 : who < 0
 · obtain rfl : res = false := No.out fun h => by have := h.2.1.1; omega
   go_wp2_with fail
   go_ret
   exact ⟨by rfl, HK1.out.1⟩
 by_cases h2 : n ≤ who
 · obtain rfl : res = false := No.out fun h => by have h3 : who < n := h.2.1.2; omega
   go_wp2_with fail
   go_ret
   exact ⟨by rfl, HK1.out.1⟩
 have Hwho : Hid (0 ≤ who ∧ who < n) := ⟨by omega, by omega⟩
 go_wp2_with fail
 refine (Hnone.out _).mono ?_
 rw [Hnn.out]
 rintro e w2 ⟨rfl, hb⟩
 have HK2 := Lib.hid (HK1.out.later hb)
 clear hb HK1 d0 d1 d2 d3 d4 d5 e0 e1 e2 e3 e4 e5
 cases nn with
 | true =>
   obtain rfl : res = true := Yes.out ⟨cfB_ok Hok.out, Hwho.out, Or.inl (of_decide_eq_true Hnn.out)⟩
   go_wp2_with fail
   go_ret
   exact ⟨by rfl, HK2.out.1⟩
 | false =>
 have Hne : Hid (¬ (⟨tr, ph, told, use, inc, moved⟩ : Au) = au0) := of_decide_eq_false Hnn.out
 have no2 : ¬ runsOk ⟨n, q, r, p, kk, cc⟩ who ⟨tr, ph, told, use, inc, moved⟩ → res = false := fun h => No.out fun h2 => h2.2.2.elim Hne.out h
 have No2 := Lib.hid no2; clear no2
 obtain ⟨d0, d1, d2, d3, d4, d5⟩ := config_cells HK2.out.2.1
 obtain ⟨e0, e1, e2, e3, e4, e5⟩ := au_cells HK2.out.2.2
 simp only at d0 d1 d2 d3 d4 d5 e0 e1 e2 e3 e4 e5
 obtain ⟨⟨hl1, hB1⟩, ⟨hl2, hB2⟩, hl3, hB3⟩ := HA.out
 simp only at hl1 hB1 hl2 hB2 hl3 hB3
 have H1 := Lib.hid hl1; have H2 := Lib.hid hl2; have H3 := Lib.hid hl3
 have HB1 := Lib.hid hB1; have HB2 := Lib.hid hB2; have HB3 := Lib.hid hB3
 clear hl1 hl2 hl3 hB1 hB2 hB3
 by_cases g1 : tr ≤ 0
 · obtain rfl : res = false := No2.out fun h => by have h3 : 0 < tr := h.1.1; omega
   go_wp2_with fail
   go_ret
   exact ⟨by rfl, HK2.out.1⟩
 by_cases g2 : 1125899906842624 < tr
 · obtain rfl : res = false := No2.out fun h => by have h3 : tr ≤ 1125899906842624 := h.1.2; omega
   go_wp2_with fail
   go_ret
   exact ⟨by rfl, HK2.out.1⟩
 by_cases g3 : ph ≠ 1 ∧ ph ≠ 2
 · obtain rfl : res = false := No2.out fun h => by have h3 : ph = 1 ∨ ph = 2 := h.2.1; omega
   have g4 : (ph != 1) = true := bne_iff_ne.2 g3.1
   have g5 : (ph != 2) = true := bne_iff_ne.2 g3.2
   clear g3
   go_wp2_with fail
   go_ret
   exact ⟨by rfl, HK2.out.1⟩
 have G3 : Hid (ph = 1 ∨ ph = 2) := by show ph = 1 ∨ ph = 2; omega
 clear g3
 have bad : ∀ s : Bool, s = true → (s = true → res = false) → res = false := fun s h h2 => h2 h
 clear bad
 go_upto_region 5 with fail
 obtain ⟨z, Hz⟩ : ∃ z : Bool, Hid (z = !decide ((m1 : Int) = n ∧ (m2 : Int) = n ∧ (m3 : Int) = n ∧ told[who.toNat]?.getD false = false)) := ⟨_, rfl⟩
 go_cut [75] from 23 to 75 (fun s75 wx => s75 = .bool z ∧ Hid (KeptA w w.heap.size ⟨n, q, r, p, kk, cc⟩ ⟨tr, ph, told, use, inc, moved⟩ ⟨a1, m1, c1, a2, m2, c2, a3, m3, c3⟩ wx))
 case first =>
  by_cases h1 : (m1 : Int) = n
  · by_cases h2 : (m2 : Int) = n
    · by_cases h3 : (m3 : Int) = n
      · subst h1
        have e2' : m2 = m1 := by omega
        have e3' : m3 = m1 := by omega
        subst e2' e3'
        have hwh := Hwho.out
        obtain ⟨b, off, hbe, t0⟩ := (HB1.out.later HK2.out.1).at (i := who.toNat) (by have := H1.out; omega)
        subst hbe
        obtain ⟨tv, Htv⟩ : ∃ z, Hid (told[who.toNat]?.getD false = z) := ⟨_, rfl⟩
        rw [Htv.out] at t0
        have hz : z = tv := by rw [Hz.out, Htv.out]; cases tv <;> simp
        subst hz
        have k0 : (0 : Int) ≤ who := hwh.1
        have k1 : who < (m3 : Int) := hwh.2
        clear hwh
        rcases G3.out with rfl | rfl
        · go_wp2_with fail
          go_meet
          exact ⟨by simp; intro h; omega, HK2.out⟩
        · go_wp2_with fail
          go_meet
          exact ⟨by simp; intro h; omega, HK2.out⟩
      · obtain rfl : z = true := by rw [Hz.out]; simp [h3]
        have h3' : ((m3 : Int) != n) = true := bne_iff_ne.2 h3
        subst h1
        have e2' : m2 = m1 := by omega
        subst e2'
        clear h3
        rcases G3.out with rfl | rfl
        · go_wp2_with fail
          go_meet
          exact ⟨by rfl, HK2.out⟩
        · go_wp2_with fail
          go_meet
          exact ⟨by rfl, HK2.out⟩
    · obtain rfl : z = true := by rw [Hz.out]; simp [h2]
      have h2' : ((m2 : Int) != n) = true := bne_iff_ne.2 h2
      subst h1
      clear h2
      rcases G3.out with rfl | rfl
      · go_wp2_with fail
        go_meet
        exact ⟨by rfl, HK2.out⟩
      · go_wp2_with fail
        go_meet
        exact ⟨by rfl, HK2.out⟩
  · obtain rfl : z = true := by rw [Hz.out]; simp [h1]
    have h1' : ((m1 : Int) != n) = true := bne_iff_ne.2 h1
    clear h1
    rcases G3.out with rfl | rfl
    · go_wp2_with fail
      go_meet
      exact ⟨by rfl, HK2.out⟩
    · go_wp2_with fail
      go_meet
      exact ⟨by rfl, HK2.out⟩
 case rest =>
 clear HK2 d0 d1 d2 d3 d4 d5 e0 e1 e2 e3 e4 e5
 obtain ⟨rfl, HK3⟩ := hcut
 cases z with
 | true =>
   obtain rfl : res = false := No2.out fun h => by
    have h9 : decide ((m1 : Int) = n ∧ (m2 : Int) = n ∧ (m3 : Int) = n ∧ told[who.toNat]?.getD false = false) = true := by
     refine decide_eq_true ⟨?_, ?_, ?_, h.2.2.2.2.2.1⟩
     · rw [H1.out]; exact h.2.2.1
     · rw [H2.out]; exact h.2.2.2.1
     · rw [H3.out]; exact h.2.2.2.2.1
    have h8 := Hz.out
    rw [h9] at h8
    cases h8
   go_wp2_with fail
   go_ret
   exact ⟨by rfl, HK3.out.1⟩
 | false =>
   have hz : decide ((m1 : Int) = n ∧ (m2 : Int) = n ∧ (m3 : Int) = n ∧ told[who.toNat]?.getD false = false) = true := by
    have h8 := Hz.out
    cases h9 : decide ((m1 : Int) = n ∧ (m2 : Int) = n ∧ (m3 : Int) = n ∧ told[who.toNat]?.getD false = false) with
    | true => rfl
    | false => rw [h9] at h8; cases h8
   obtain ⟨y1, y2, y3, y4⟩ := of_decide_eq_true hz
   have hn16 : n ≤ 16 := (cfB_ok Hok.out).2.1
   have e2' : m2 = m1 := by omega
   have e3' : m3 = m1 := by omega
   subst e2' e3' y1
   have H4 := Lib.hid y4
   have Htr : Hid (0 < tr ∧ tr ≤ 1125899906842624) := ⟨by omega, by omega⟩
   clear hz y2 y3 y4 g1 g2 h1 h2
   go_wp2_with fail
   go_loopw [7] (fun s7 wr => ∃ k : Nat, k ≤ m3 ∧ s7 = .int .i64 k ∧ Hid (∀ i, i < k → (0 ≤ use[i]?.getD 0 ∧ use[i]?.getD 0 ≤ 1099511627776) ∧ (0 ≤ inc[i]?.getD 0 ∧ inc[i]?.getD 0 ≤ 1099511627776)) ∧ Hid (KeptA w w.heap.size ⟨m3, q, r, p, kk, cc⟩ ⟨tr, ph, told, use, inc, moved⟩ ⟨a1, m3, c1, a2, m3, c2, a3, m3, c3⟩ wr)) (fun s7 _ => m3 - (intOf s7).toNat)
   case atStart => exact ⟨0, Nat.zero_le _, rfl, fun z hz => absurd hz (Nat.not_lt_zero _), HK3.out⟩
   case round =>
    obtain ⟨k, hk, rfl, Hl, HKr⟩ := hrel
    obtain ⟨d0, d1, d2, d3, d4, d5⟩ := config_cells HKr.out.2.1
    obtain ⟨e0, e1, e2, e3, e4, e5⟩ := au_cells HKr.out.2.2
    simp only at d0 d1 d2 d3 d4 d5 e0 e1 e2 e3 e4 e5
    by_cases hlt : k < m3
    · obtain ⟨b2, o2, hbe, _, u0⟩ := (HB2.out.later HKr.out.1).at (i := k) (by have := H2.out; omega)
      subst hbe
      obtain ⟨b3, o3, hbe, _, v0⟩ := (HB3.out.later HKr.out.1).at (i := k) (by have := H3.out; omega)
      subst hbe
      obtain ⟨y, Hy⟩ : ∃ z, Hid (use[k]?.getD 0 = z) := ⟨_, rfl⟩
      obtain ⟨v, Hv⟩ : ∃ z, Hid (inc[k]?.getD 0 = z) := ⟨_, rfl⟩
      rw [Hy.out] at u0
      rw [Hv.out] at v0
      have k0 : (0 : Int) ≤ (k : Int) := by omega
      have k1 : (k : Int) < (m3 : Int) := by omega
      have hin : runsOk ⟨m3, q, r, p, kk, cc⟩ who ⟨tr, ph, told, use, inc, moved⟩ → (0 ≤ y ∧ y ≤ 1099511627776) ∧ (0 ≤ v ∧ v ≤ 1099511627776) := fun h => by
       have h9 : (0 ≤ use[k]?.getD 0 ∧ use[k]?.getD 0 ≤ 1099511627776) ∧ (0 ≤ inc[k]?.getD 0 ∧ inc[k]?.getD 0 ≤ 1099511627776) := h.2.2.2.2.2.2 k (by have := H1.out; show k < told.length; omega)
       rw [Hy.out, Hv.out] at h9
       exact h9
      have Hin := Lib.hid hin; clear hin
      by_cases f1 : y < 0
      · obtain rfl : res = false := No2.out fun h => by have := (Hin.out h).1.1; omega
        go_wp2_with fail
        go_ret
        exact ⟨by rfl, HKr.out.1⟩
      by_cases f2 : 1099511627776 < y
      · obtain rfl : res = false := No2.out fun h => by have := (Hin.out h).1.2; omega
        go_wp2_with fail
        go_ret
        exact ⟨by rfl, HKr.out.1⟩
      by_cases f3 : v < 0
      · obtain rfl : res = false := No2.out fun h => by have := (Hin.out h).2.1; omega
        go_wp2_with fail
        go_ret
        exact ⟨by rfl, HKr.out.1⟩
      by_cases f4 : 1099511627776 < v
      · obtain rfl : res = false := No2.out fun h => by have := (Hin.out h).2.2; omega
        go_wp2_with fail
        go_ret
        exact ⟨by rfl, HKr.out.1⟩
      have Hf : Hid ((0 ≤ y ∧ y ≤ 1099511627776) ∧ (0 ≤ v ∧ v ≤ 1099511627776)) := ⟨⟨by omega, by omega⟩, by omega, by omega⟩
      go_wp2_with fail
      go_roundw
      case rel => exact ⟨k + 1, by omega, by go_num, (fun z hz => by
       by_cases e : z = k
       · subst e; rw [Hy.out, Hv.out]; exact Hf.out
       · exact Hl.out z (by omega)), HKr.out⟩
      case measure => simp [intOf]; omega
    · have hall : ∀ i, i < told.length → (0 ≤ use[i]?.getD 0 ∧ use[i]?.getD 0 ≤ 1099511627776) ∧ (0 ≤ inc[i]?.getD 0 ∧ inc[i]?.getD 0 ≤ 1099511627776) := fun i hi => Hl.out i (by have := H1.out; omega)
      obtain rfl : res = true := Yes.out ⟨cfB_ok Hok.out, Hwho.out, Or.inr ⟨Htr.out, G3.out, by show (told.length : Int) = m3; rw [← H1.out], by show (use.length : Int) = m3; rw [← H2.out], by show (inc.length : Int) = m3; rw [← H3.out], H4.out, hall⟩⟩
      clear hall
      go_wp2_with fail
      go_ret
      exact ⟨by rfl, HKr.out.1⟩
end Go.Proofs.YtnkgakhnlbifdaaGreat
namespace Go.Proofs.YtnkgakhnlbifdaaGreat
open Go.RowKit
def KeptK (w : World) (g : Nat) (c : Cf) (x : Bk) (p : Bl) (wx : World) : Prop := Below w.heap.size w wx ∧ Whole wx g 23 (cfCells c) ∧ Whole wx (g + 1) 37 (bkAtC x p)
theorem KeptK.later {w : World} {g : Nat} {c : Cf} {x : Bk} {p : Bl} {wx wy : World} (h : KeptK w g c x p wx) (hb : Below wx.heap.size wx wy) : KeptK w g c x p wy := ⟨held_next h.1 hb, h.2.1.later hb h.2.1.lt, h.2.2.later hb h.2.2.lt⟩
theorem bookB_no {c : Cf} {who : Int} {x : Bk} (h : ¬ bookOk c who x) : bookB c who x = false := decide_eq_false h
set_option maxRecDepth 100000 in
set_option maxHeartbeats 16000000 in
theorem refkmay_calls (c : Cf) (who : Int) (x : Bk) (p : Bl) (w : World) (hK : BkIn w p x) :
 Calls Tryz.prog 14 #[cfV c, .int .i64 who, bkAt x p] w (Says w (bookB c who x)) := by
 have HK : Hid (KeptK w w.heap.size c x p ((w.alloc (.cells (cfCells c) 23)).alloc (.cells (bkAtC x p) 37))) :=
  ⟨below_two w _ _, (Whole.made w _ _).alloc _, Whole.made2 w _ _ _⟩
 obtain ⟨⟨hm1, hB1⟩, ⟨hm2, hB2⟩, ⟨hm3, hB3⟩, ⟨hm4, hB4⟩, hA⟩ := hK
 have b2 : p.m2 ≤ 9223372036854775807 := by rw [hm2]; exact hB2.1
 have b3 : p.m3 ≤ 9223372036854775807 := by rw [hm3]; exact hB3.1
 have ba : p.al.m1 ≤ 9223372036854775807 ∧ p.al.m2 ≤ 9223372036854775807 ∧ p.al.m3 ≤ 9223372036854775807 := ⟨by rw [hA.1.1]; exact hA.1.2.1, by rw [hA.2.1.1]; exact hA.2.1.2.1, by rw [hA.2.2.1]; exact hA.2.2.2.1⟩
 obtain ⟨n, q, r, pp, kk, cc⟩ := c
 obtain ⟨clk, rows, line, outs, asks, notes, ⟨tr, ph, told, use, inc, moved⟩⟩ := x
 obtain ⟨a1, m1, c1, a2, m2, c2, a3, m3, c3, a4, m4, c4, ⟨a5, m5, c5, a6, m6, c6, a7, m7, c7⟩⟩ := p
 simp only at hm1 hB1 hm2 hB2 hm3 hB3 hm4 hB4 b2 b3 ba
 have HB1 := Lib.hid hB1; clear hB1
 have HB2 := Lib.hid hB2; clear hB2
 have HB3 := Lib.hid hB3; clear hB3
 have HB4 := Lib.hid hB4; clear hB4
 have HA := Lib.hid hA; clear hA
 have HBa := Lib.hid ba; clear ba
 have Hm1 := Lib.hid hm1; clear hm1
 have Hm2 := Lib.hid hm2; clear hm2
 have Hm3 := Lib.hid hm3; clear hm3
 have Hm4 := Lib.hid hm4; clear hm4
 obtain ⟨res, Hres⟩ : ∃ z, Hid (bookB ⟨n, q, r, pp, kk, cc⟩ who ⟨clk, rows, line, outs, asks, notes, ⟨tr, ph, told, use, inc, moved⟩⟩ = z) := ⟨_, rfl⟩
 have no : ¬ bookOk ⟨n, q, r, pp, kk, cc⟩ who ⟨clk, rows, line, outs, asks, notes, ⟨tr, ph, told, use, inc, moved⟩⟩ → res = false := fun h => Hres.out.symm.trans (bookB_no h)
 have No := Lib.hid no; clear no
 rw [Hres.out]
 obtain ⟨ok, Hok⟩ : ∃ z, Hid (rightB ⟨n, q, r, pp, kk, cc⟩ rows = z) := ⟨_, rfl⟩
 obtain ⟨lv, Hlv⟩ : ∃ z, Hid (lineB ⟨n, q, r, pp, kk, cc⟩ who line = z) := ⟨_, rfl⟩
 go_enter Tryz.func14, Tryz.ntmps14
 go_wp2_with fail
 refine (refright_calls ⟨n, q, r, pp, kk, cc⟩ a1 m1 c1 rows Hm1.out _ (HB1.out.later HK.out.1)).mono ?_
 rintro e w1 ⟨rfl, hb⟩
 rw [Hok.out]
 have HK1 := Lib.hid (HK.out.later hb)
 clear hb HK
 obtain ⟨d0, d1, d2, d3, d4, d5⟩ := config_cells HK1.out.2.1
 obtain ⟨⟨e0, e1, e2, e3⟩, ⟨e4, e5, e6, e7⟩, e8, e9, e10, e11⟩ := bk_cells HK1.out.2.2
 simp only at d0 d1 d2 d3 d4 d5 e0 e1 e2 e3 e4 e5 e6 e7 e8 e9 e10 e11
 cases ok with
 | false =>
   obtain rfl : res = false := No.out fun h => by
    have : rightB ⟨n, q, r, pp, kk, cc⟩ rows = true := decide_eq_true h.1
    rw [Hok.out] at this
    cases this
   go_wp2_with fail
   go_ret
   exact ⟨by rfl, HK1.out.1⟩
 | true =>
 have Hro := Lib.hid (rightB_ok Hok.out)
 by_cases h1 : who < 0
 · obtain rfl : res = false := No.out fun h => by have h3 : 0 ≤ who := h.2.1.1; omega
   go_wp2_with fail
   go_ret
   exact ⟨by rfl, HK1.out.1⟩
 by_cases h2 : n ≤ who
 · obtain rfl : res = false := No.out fun h => by have h3 : who < n := h.2.1.2; omega
   go_wp2_with fail
   go_ret
   exact ⟨by rfl, HK1.out.1⟩
 by_cases h3 : clk < 0
 · obtain rfl : res = false := No.out fun h => by have h3 : 0 ≤ clk := h.2.2.1.1; omega
   go_wp2_with fail
   go_ret
   exact ⟨by rfl, HK1.out.1⟩
 by_cases h4 : 1125899906842624 < clk
 · obtain rfl : res = false := No.out fun h => by have h3 : clk ≤ 1125899906842624 := h.2.2.1.2; omega
   go_wp2_with fail
   go_ret
   exact ⟨by rfl, HK1.out.1⟩
 have hq : q ≤ 1000000 ∧ 0 ≤ q := by have h := Hro.out.1; unfold cfOk at h; simp only at h; omega
 obtain ⟨hq1, hq2⟩ := hq
 go_wp2_with fail
 refine (reflinemay_calls ⟨n, q, r, pp, kk, cc⟩ who a2 m2 c2 line Hm2.out _ (HB2.out.later HK1.out.1)).mono ?_
 rintro e w2 ⟨rfl, hb⟩
 rw [Hlv.out]
 have HK2 := Lib.hid (HK1.out.later hb)
 clear hb d0 d1 d2 d3 d4 d5 e0 e1 e2 e3 e4 e5 e6 e7 e8 e9 e10 e11
 obtain ⟨d0, d1, d2, d3, d4, d5⟩ := config_cells HK2.out.2.1
 obtain ⟨⟨e0, e1, e2, e3⟩, ⟨e4, e5, e6, e7⟩, e8, e9, e10, e11⟩ := bk_cells HK2.out.2.2
 simp only at d0 d1 d2 d3 d4 d5 e0 e1 e2 e3 e4 e5 e6 e7 e8 e9 e10 e11
 cases lv with
 | false =>
   obtain rfl : res = false := No.out fun h => by
    have : lineB ⟨n, q, r, pp, kk, cc⟩ who line = true := decide_eq_true h.2.2.2.1
    rw [Hlv.out] at this
    cases this
   go_wp2_with fail
   go_ret
   exact ⟨by rfl, HK2.out.1⟩
 | true =>
 by_cases h5 : q + 1 < (m3 : Int)
 · obtain rfl : res = false := No.out fun h => by have h3 : (outs.length : Int) ≤ q + 1 := h.2.2.2.2.1.1; have := Hm3.out; omega
   go_wp2_with fail
   go_ret
   exact ⟨by rfl, HK2.out.1⟩
 by_cases h6 : asks < 0
 · obtain rfl : res = false := No.out fun h => by have h3 : 0 ≤ asks := h.2.2.2.2.1.2.1; omega
   go_wp2_with fail
   go_ret
   exact ⟨by rfl, HK2.out.1⟩
 by_cases h7 : r < asks
 · obtain rfl : res = false := No.out fun h => by have h3 : asks ≤ r := h.2.2.2.2.1.2.2; omega
   go_wp2_with fail
   go_ret
   exact ⟨by rfl, HK2.out.1⟩
 have Hsm : Hid ((0 ≤ who ∧ who < n) ∧ (0 ≤ clk ∧ clk ≤ 1125899906842624) ∧ (m3 : Int) ≤ q + 1 ∧ 0 ≤ asks ∧ asks ≤ r) := ⟨by omega, by omega, by omega, by omega, by omega⟩
 have hc1 : clk ≤ 1125899906842624 := by omega
 have hc0 : 0 ≤ clk := by omega
 have hk0 : 0 ≤ asks := by omega
 go_wp2_with fail
 clear d0 d1 d2 d3 d4 d5 e0 e1 e2 e3 e4 e5 e6 e7 e8 e9 e10 e11 h1 h2 h3 h4 h5 h6 h7
 go_loopw [7] (fun s7 wr => ∃ k : Nat, k ≤ m2 ∧ s7 = .int .i64 k ∧ Hid (∀ i, i < k → (rqAt line i).t ≤ clk) ∧ Hid (KeptK w w.heap.size ⟨n, q, r, pp, kk, cc⟩ ⟨clk, rows, line, outs, asks, notes, ⟨tr, ph, told, use, inc, moved⟩⟩ ⟨a1, m1, c1, a2, m2, c2, a3, m3, c3, a4, m4, c4, ⟨a5, m5, c5, a6, m6, c6, a7, m7, c7⟩⟩ wr)) (fun s7 _ => m2 - (intOf s7).toNat)
 case atStart => exact ⟨0, Nat.zero_le _, rfl, fun z hz => absurd hz (Nat.not_lt_zero _), HK2.out⟩
 case round =>
  obtain ⟨k, hk, rfl, Hl, HKr⟩ := hrel
  obtain ⟨d0, d1, d2, d3, d4, d5⟩ := config_cells HKr.out.2.1
  obtain ⟨⟨e0, e1, e2, e3⟩, ⟨e4, e5, e6, e7⟩, e8, e9, e10, e11⟩ := bk_cells HKr.out.2.2
  simp only at d0 d1 d2 d3 d4 d5 e0 e1 e2 e3 e4 e5 e6 e7 e8 e9 e10 e11
  by_cases hlt : k < m2
  · obtain ⟨b, off, rfl, g0, g1, g2⟩ := (HB2.out.later HKr.out.1).at (i := k) (by have := Hm2.out; omega)
    obtain ⟨y, Hy⟩ : ∃ z, Hid (rqAt line k = z) := ⟨_, rfl⟩
    rw [Hy.out] at g0 g1 g2
    obtain ⟨yt, ya, ym⟩ := y
    simp only at g0 g1 g2
    have k0 : (0 : Int) ≤ (k : Int) := by omega
    have k1 : (k : Int) < (m2 : Int) := by omega
    by_cases ht : clk < yt
    · obtain rfl : res = false := No.out fun h => by
       have h9 := h.2.2.2.2.2.1 k (by have := Hm2.out; show k < line.length; omega)
       rw [Hy.out] at h9
       have h8 : yt ≤ clk := h9
       omega
      go_wp2_with fail
      go_quiet (fail)
      go_wp2_with fail
      go_ret
      exact ⟨by rfl, below_drewN HKr.out.1 _⟩
    · go_wp2_with fail
      go_quiet (fail)
      go_wp2_with fail
      go_roundw
      case rel => exact ⟨k + 1, by omega, by go_num, (fun z hz => by
       by_cases e : z = k
       · subst e; rw [Hy.out]; show yt ≤ clk; omega
       · exact Hl.out z (by omega)), HKr.out.later (below_drewN (Below.refl _ _) _)⟩
      case measure => simp [intOf]; omega
  · obtain rfl : m2 = k := by omega
    have Hll : Hid (∀ i, i < line.length → (rqAt line i).t ≤ clk) := fun i hi => Hl.out i (by have := Hm2.out; omega)
    clear Hl
    go_wp2_with fail
    clear d0 d1 d2 d3 d4 d5 e0 e1 e2 e3 e4 e5 e6 e7 e8 e9 e10 e11
    go_loopw [8] (fun s8 wr => ∃ k : Nat, k ≤ m3 ∧ s8 = .int .i64 k ∧ Hid (∀ i, i < k → outB ⟨n, q, r, pp, kk, cc⟩ who clk (rqAt outs i) = true) ∧ Hid (KeptK w w.heap.size ⟨n, q, r, pp, kk, cc⟩ ⟨clk, rows, line, outs, asks, notes, ⟨tr, ph, told, use, inc, moved⟩⟩ ⟨a1, m1, c1, a2, m2, c2, a3, m3, c3, a4, m4, c4, ⟨a5, m5, c5, a6, m6, c6, a7, m7, c7⟩⟩ wr)) (fun s8 _ => m3 - (intOf s8).toNat)
    case atStart => exact ⟨0, Nat.zero_le _, rfl, fun z hz => absurd hz (Nat.not_lt_zero _), HKr.out⟩
    case round =>
     clear HKr
     obtain ⟨j, hj, rfl, Ho, HKr⟩ := hrel
     obtain ⟨d0, d1, d2, d3, d4, d5⟩ := config_cells HKr.out.2.1
     obtain ⟨⟨e0, e1, e2, e3⟩, ⟨e4, e5, e6, e7⟩, e8, e9, e10, e11⟩ := bk_cells HKr.out.2.2
     simp only at d0 d1 d2 d3 d4 d5 e0 e1 e2 e3 e4 e5 e6 e7 e8 e9 e10 e11
     by_cases hlt : j < m3
     · obtain ⟨b, off, rfl, g0, g1, g2⟩ := (HB3.out.later HKr.out.1).at (i := j) (by have := Hm3.out; omega)
       obtain ⟨y, Hy⟩ : ∃ z, Hid (rqAt outs j = z) := ⟨_, rfl⟩
       rw [Hy.out] at g0 g1 g2
       obtain ⟨yt, ya, ym⟩ := y
       simp only at g0 g1 g2
       have k0 : (0 : Int) ≤ (j : Int) := by omega
       have k1 : (j : Int) < (m3 : Int) := by omega
       obtain ⟨v, Hv⟩ : ∃ z, Hid (mayB yt ya n = z) := ⟨_, rfl⟩
       obtain ⟨ov, Hov⟩ : ∃ z, Hid (outB ⟨n, q, r, pp, kk, cc⟩ who clk ⟨yt, ya, ym⟩ = z) := ⟨_, rfl⟩
       have hov : ov = (v && (decide (ya = who ∧ yt ≤ clk) && decide (ym = 0 ∨ ym = 7))) := by rw [← Hov.out, ← Hv.out]; rfl
       have Hov2 := Lib.hid hov
       clear hov
       have Hfalse : Hid (ov = false → res = false) := fun h0 => No.out fun h => by
        have h9 := h.2.2.2.2.2.2.1 j (by have := Hm3.out; show j < outs.length; omega)
        have h8 : outB ⟨n, q, r, pp, kk, cc⟩ who clk (rqAt outs j) = true := h9
        rw [Hy.out, Hov.out, h0] at h8
        cases h8
       have Hnext : Hid (ov = true → ∀ i, i < j + 1 → outB ⟨n, q, r, pp, kk, cc⟩ who clk (rqAt outs i) = true) := fun h0 i hi => by
        by_cases e : i = j
        · subst e; rw [Hy.out, Hov.out]; exact h0
        · exact Ho.out i (by omega)
       have HKb := Lib.hid (HKr.out.later (below_box _ (.cells #[.int .i64 yt, .int .i64 ya, .int .i64 ym] 69)))
       have HO := Lib.hid (Whole.made wr 69 #[.int .i64 yt, .int .i64 ya, .int .i64 ym])
       obtain ⟨d0, d1, d2, d3, d4, d5⟩ := config_cells HKb.out.2.1
       obtain ⟨⟨e0, e1, e2, e3⟩, ⟨e4, e5, e6, e7⟩, e8, e9, e10, e11⟩ := bk_cells HKb.out.2.2
       simp only at d0 d1 d2 d3 d4 d5 e0 e1 e2 e3 e4 e5 e6 e7 e8 e9 e10 e11
       obtain ⟨o0, o1, o2⟩ : _ ∧ _ ∧ _ := ⟨HO.out.cell 0, HO.out.cell 1, HO.out.cell 2⟩
       go_wp2_with fail
       refine (refstampmay_calls yt ya n _).mono ?_
       rintro e w4 ⟨rfl, hb⟩
       rw [Hv.out]
       have HK4 := Lib.hid (HKb.out.later hb)
       replace o0 := cell_later hb o0
       replace o1 := cell_later hb o1
       replace o2 := cell_later hb o2
       clear hb d0 d1 d2 d3 d4 d5 e0 e1 e2 e3 e4 e5 e6 e7 e8 e9 e10 e11
       obtain ⟨d0, d1, d2, d3, d4, d5⟩ := config_cells HK4.out.2.1
       obtain ⟨⟨e0, e1, e2, e3⟩, ⟨e4, e5, e6, e7⟩, e8, e9, e10, e11⟩ := bk_cells HK4.out.2.2
       simp only at d0 d1 d2 d3 d4 d5 e0 e1 e2 e3 e4 e5 e6 e7 e8 e9 e10 e11
       cases v with
       | false =>
         obtain rfl : ov = false := Hov2.out
         obtain rfl : res = false := Hfalse.out rfl
         go_wp2_with fail
         go_ret
         exact ⟨by rfl, HK4.out.1⟩
       | true =>
         by_cases ha : ya = who
         · by_cases ht : yt ≤ clk
           · by_cases h0 : ym = 0
             · obtain rfl : ov = true := Hov2.out.trans (by simp [ha, ht, h0])
               subst ha h0
               go_wp2_with fail
               go_roundw
               case rel => exact ⟨j + 1, by omega, by go_num, Hnext.out (by trivial), HK4.out⟩
               case measure => simp [intOf]; omega
             · by_cases h7 : ym = 7
               · obtain rfl : ov = true := Hov2.out.trans (by simp [ha, ht, h7])
                 subst ha h7
                 go_wp2_with fail
                 go_roundw
                 case rel => exact ⟨j + 1, by omega, by go_num, Hnext.out (by trivial), HK4.out⟩
                 case measure => simp [intOf]; omega
               · obtain rfl : ov = false := Hov2.out.trans (by simp [ha, ht, h0, h7])
                 obtain rfl : res = false := Hfalse.out rfl
                 have n0 : (ym != 0) = true := bne_iff_ne.2 h0
                 have n7 : (ym != 7) = true := bne_iff_ne.2 h7
                 subst ha
                 clear h0 h7
                 go_wp2_with fail
                 go_ret
                 exact ⟨by rfl, HK4.out.1⟩
           · obtain rfl : ov = false := Hov2.out.trans (by simp [ha, ht])
             obtain rfl : res = false := Hfalse.out rfl
             subst ha
             go_wp2_with fail
             go_ret
             exact ⟨by rfl, HK4.out.1⟩
         · obtain rfl : ov = false := Hov2.out.trans (by simp [ha])
           obtain rfl : res = false := Hfalse.out rfl
           have na : (ya != who) = true := bne_iff_ne.2 ha
           clear ha
           go_wp2_with fail
           go_ret
           exact ⟨by rfl, HK4.out.1⟩
     · obtain rfl : m3 = j := by omega
       have Hoo : Hid (∀ i, i < outs.length → outB ⟨n, q, r, pp, kk, cc⟩ who clk (rqAt outs i) = true) := fun i hi => Ho.out i (by have := Hm3.out; omega)
       clear Ho
       obtain ⟨nv, Hnv⟩ : ∃ z, Hid (notesB ⟨n, q, r, pp, kk, cc⟩ who notes = z) := ⟨_, rfl⟩
       obtain ⟨av, Hav⟩ : ∃ z, Hid (auB ⟨n, q, r, pp, kk, cc⟩ who ⟨tr, ph, told, use, inc, moved⟩ = z) := ⟨_, rfl⟩
       obtain ⟨zv, Hzv⟩ : ∃ z, Hid (noneA ⟨tr, ph, told, use, inc, moved⟩ = z) := ⟨_, rfl⟩
       have hline : lineOk ⟨n, q, r, pp, kk, cc⟩ who line := of_decide_eq_true Hlv.out
       have Hline := Lib.hid hline; clear hline
       have hempty : line = [] ↔ m2 = 0 := by rw [Hm2.out]; simp
       have hres : res = decide ((m2 = 0 → asks = 0 ∧ zv = true) ∧ nv = true ∧ av = true) := by
        rw [← Hres.out]
        unfold bookB
        congr 1
        rw [← Hnv.out, ← Hav.out, ← Hzv.out, eq_iff_iff]
        constructor
        · intro h
          exact ⟨fun h0 => ⟨(h.2.2.2.2.2.2.2.1 (hempty.2 h0)).1, decide_eq_true (h.2.2.2.2.2.2.2.1 (hempty.2 h0)).2⟩, decide_eq_true h.2.2.2.2.2.2.2.2.1, decide_eq_true h.2.2.2.2.2.2.2.2.2⟩
        · intro h
          exact ⟨Hro.out, Hsm.out.1, Hsm.out.2.1, Hline.out, ⟨by show (outs.length : Int) ≤ q + 1; rw [← Hm3.out]; exact Hsm.out.2.2.1, Hsm.out.2.2.2⟩, Hll.out, Hoo.out, fun h0 => ⟨(h.1 (hempty.1 h0)).1, of_decide_eq_true (h.1 (hempty.1 h0)).2⟩, of_decide_eq_true h.2.1, of_decide_eq_true h.2.2⟩
       have HRes := Lib.hid hres
       clear hres hempty
       obtain ⟨d0, d1, d2, d3, d4, d5⟩ := config_cells HKr.out.2.1
       obtain ⟨⟨e0, e1, e2, e3⟩, ⟨e4, e5, e6, e7⟩, e8, e9, e10, e11⟩ := bk_cells HKr.out.2.2
       simp only at d0 d1 d2 d3 d4 d5 e0 e1 e2 e3 e4 e5 e6 e7 e8 e9 e10 e11
       by_cases hm20 : m2 = 0
       · subst hm20
         by_cases hk : 0 < asks
         · obtain rfl : res = false := by rw [HRes.out]; simp; omega
           go_wp2_with fail
           go_ret
           exact ⟨by rfl, HKr.out.1⟩
         · obtain rfl : asks = 0 := by omega
           go_wp2_with fail
           refine (refnone_calls ⟨tr, ph, told, use, inc, moved⟩ ⟨a5, m5, c5, a6, m6, c6, a7, m7, c7⟩ _ HA.out.1.1 HA.out.2.1.1 HA.out.2.2.1 HBa.out).mono ?_
           rintro e w4 ⟨rfl, hb⟩
           rw [Hzv.out]
           have HK4 := Lib.hid (HKr.out.later hb)
           clear hb d0 d1 d2 d3 d4 d5 e0 e1 e2 e3 e4 e5 e6 e7 e8 e9 e10 e11
           obtain ⟨d0, d1, d2, d3, d4, d5⟩ := config_cells HK4.out.2.1
           obtain ⟨⟨e0, e1, e2, e3⟩, ⟨e4, e5, e6, e7⟩, e8, e9, e10, e11⟩ := bk_cells HK4.out.2.2
           simp only at d0 d1 d2 d3 d4 d5 e0 e1 e2 e3 e4 e5 e6 e7 e8 e9 e10 e11
           cases zv with
           | false =>
             obtain rfl : res = false := by rw [HRes.out]; simp
             go_wp2_with fail
             go_ret
             exact ⟨by rfl, HK4.out.1⟩
           | true =>
             go_wp2_with fail
             refine (refclaimmay_calls ⟨n, q, r, pp, kk, cc⟩ who a4 m4 c4 notes Hm4.out _ (HB4.out.later HK4.out.1)).mono ?_
             rintro e w5 ⟨rfl, hb⟩
             rw [Hnv.out]
             have HK5 := Lib.hid (HK4.out.later hb)
             clear hb d0 d1 d2 d3 d4 d5 e0 e1 e2 e3 e4 e5 e6 e7 e8 e9 e10 e11
             obtain ⟨d0, d1, d2, d3, d4, d5⟩ := config_cells HK5.out.2.1
             obtain ⟨⟨e0, e1, e2, e3⟩, ⟨e4, e5, e6, e7⟩, e8, e9, e10, e11⟩ := bk_cells HK5.out.2.2
             simp only at d0 d1 d2 d3 d4 d5 e0 e1 e2 e3 e4 e5 e6 e7 e8 e9 e10 e11
             cases nv with
             | false =>
               obtain rfl : res = false := by rw [HRes.out]; simp
               go_wp2_with fail
               go_ret
               exact ⟨by rfl, HK5.out.1⟩
             | true =>
               go_wp2_with fail
               refine (refauditmay_calls ⟨n, q, r, pp, kk, cc⟩ who ⟨tr, ph, told, use, inc, moved⟩ ⟨a5, m5, c5, a6, m6, c6, a7, m7, c7⟩ _ (HA.out.later HK5.out.1)).mono ?_
               rintro e w6 ⟨rfl, hb⟩
               rw [Hav.out]
               have HK6 := Lib.hid (HK5.out.later hb)
               obtain rfl : res = av := by rw [HRes.out]; simp
               clear hb
               go_wp2_with fail
               go_ret
               exact ⟨by rfl, HK6.out.1⟩
       · have hz0 : ((m2 : Int) == 0) = false := beq_eq_false_iff_ne.2 (by omega)
         have Hm20 := Lib.hid hm20; clear hm20
         go_wp2_with fail
         refine (refclaimmay_calls ⟨n, q, r, pp, kk, cc⟩ who a4 m4 c4 notes Hm4.out _ (HB4.out.later HKr.out.1)).mono ?_
         rintro e w5 ⟨rfl, hb⟩
         rw [Hnv.out]
         have HK5 := Lib.hid (HKr.out.later hb)
         clear hb d0 d1 d2 d3 d4 d5 e0 e1 e2 e3 e4 e5 e6 e7 e8 e9 e10 e11
         obtain ⟨d0, d1, d2, d3, d4, d5⟩ := config_cells HK5.out.2.1
         obtain ⟨⟨e0, e1, e2, e3⟩, ⟨e4, e5, e6, e7⟩, e8, e9, e10, e11⟩ := bk_cells HK5.out.2.2
         simp only at d0 d1 d2 d3 d4 d5 e0 e1 e2 e3 e4 e5 e6 e7 e8 e9 e10 e11
         cases nv with
         | false =>
           obtain rfl : res = false := by rw [HRes.out]; simp
           go_wp2_with fail
           go_ret
           exact ⟨by rfl, HK5.out.1⟩
         | true =>
           go_wp2_with fail
           refine (refauditmay_calls ⟨n, q, r, pp, kk, cc⟩ who ⟨tr, ph, told, use, inc, moved⟩ ⟨a5, m5, c5, a6, m6, c6, a7, m7, c7⟩ _ (HA.out.later HK5.out.1)).mono ?_
           rintro e w6 ⟨rfl, hb⟩
           rw [Hav.out]
           have HK6 := Lib.hid (HK5.out.later hb)
           obtain rfl : res = av := by rw [HRes.out]; simp [Hm20.out]
           clear hb
           go_wp2_with fail
           go_ret
           exact ⟨by rfl, HK6.out.1⟩
end Go.Proofs.YtnkgakhnlbifdaaGreat
