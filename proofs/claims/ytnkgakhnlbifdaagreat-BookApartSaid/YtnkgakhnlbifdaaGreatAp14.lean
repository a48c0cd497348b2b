/- Parts, as far as BookApartCards reaches them, of: AuditBox, RefAuditNone, RefAuditMay. No law is proved here. -/
import Derived.Test.YtnkgakhnlbifdaaGreatAp3
import Derived.WalkKit
import Derived.ProofKit
import Derived.OpenShut
import Derived.WalkSpells
import Derived.Lib.Hide
import Derived.Deep.Draws
import Derived.Deep.Slices
import Derived.Deep.Fields
import Derived.ChangeSame
import Derived.RegionTactic
import Derived.WalkLawsBesides
import Derived.LoopTactic
import Derived.IntWalk
import Derived.Deep.DeepCutAuto
import Derived.Test.YtnkgakhnlbifdaaGreatAp5
import Derived.WalkSmall
namespace Go.Proofs.YtnkgakhnlbifdaaGreat
open Go.RowKit
def KeptA (w : World) (g : Nat) (c : Cf) (x : Au) (p : Al) (wx : World) : Prop :=
 Below w.heap.size w wx ∧ Whole wx g 23 (cfCells c) ∧ Whole wx (g + 1) 35 (auCells x (.slice p.a1 p.m1 p.c1) (.slice p.a2 p.m2 p.c2) (.slice p.a3 p.m3 p.c3))
theorem KeptA.later {w : World} {g : Nat} {c : Cf} {x : Au} {p : Al} {wx wy : World} (h : KeptA w g c x p wx) (hb : Below wx.heap.size wx wy) : KeptA w g c x p wy := ⟨held_next h.1 hb, h.2.1.later hb h.2.1.lt, h.2.2.later hb h.2.2.lt⟩
theorem au_cells {w : World} {g : Nat} {x : Au} {tv uv iv : Value} (h : Whole w g 35 (auCells x tv uv iv)) :
 w.cell? ⟨g, 0, none⟩ = some (.int .i64 x.try_) ∧ w.cell? ⟨g, 1, none⟩ = some (.int .i64 x.ph) ∧ w.cell? ⟨g, 2, none⟩ = some tv ∧ w.cell? ⟨g, 3, none⟩ = some uv ∧ w.cell? ⟨g, 4, none⟩ = some iv ∧ w.cell? ⟨g, 5, none⟩ = some (.bool x.moved) :=
 ⟨h.cell 0, h.cell 1, h.cell 2, h.cell 3, h.cell 4, h.cell 5⟩
end Go.Proofs.YtnkgakhnlbifdaaGreat
namespace Go.Proofs.YtnkgakhnlbifdaaGreat
open Go.RowKit
set_option maxRecDepth 100000 in
set_option maxHeartbeats 4000000 in
theorem refnone_calls (x : Au) (p : Al) (w : World) (h1 : p.m1 = x.told.length) (h2 : p.m2 = x.use.length) (h3 : p.m3 = x.inc.length) (hb : p.m1 ≤ 9223372036854775807 ∧ p.m2 ≤ 9223372036854775807 ∧ p.m3 ≤ 9223372036854775807) :
 Calls Tryz.prog 41 #[auAt x p] w (Says w (noneA x)) := by
 have Hb0 := Lib.hid (below_box w (.cells (auCells x (.slice p.a1 p.m1 p.c1) (.slice p.a2 p.m2 p.c2) (.slice p.a3 p.m3 p.c3)) 35))
 obtain ⟨tr, ph, told, use, inc, moved⟩ := x
 obtain ⟨a1, m1, c1, a2, m2, c2, a3, m3, c3⟩ := p
 obtain ⟨hb1, hb2, hb3⟩ := hb
 simp only at h1 h2 h3 hb1 hb2 hb3
 obtain ⟨res, Hres⟩ : ∃ z, Hid (noneA ⟨tr, ph, told, use, inc, moved⟩ = z) := ⟨_, rfl⟩
 rw [Hres.out]
 have hr : res = decide (tr = 0 ∧ ph = 0 ∧ m1 = 0 ∧ m2 = 0 ∧ m3 = 0 ∧ moved = false) := by
  rw [← Hres.out, h1, h2, h3]
  unfold noneA
  simp only [Au.mk.injEq, List.length_eq_zero_iff]
 have HR := Lib.hid hr
 clear hr h1 h2 h3
 go_enter Tryz.func41, Tryz.ntmps41
 by_cases k1 : tr = 0
 · subst k1
   by_cases k2 : ph = 0
   · subst k2
     by_cases k3 : m1 = 0
     · subst k3
       by_cases k4 : m2 = 0
       · subst k4
         by_cases k5 : m3 = 0
         · subst k5
           cases moved with
           | false =>
             obtain rfl : res = true := by rw [HR.out]; simp
             go_wp2_with fail
             go_ret
             exact ⟨by rfl, Hb0.out⟩
           | true =>
             obtain rfl : res = false := by rw [HR.out]; simp
             go_wp2_with fail
             go_ret
             exact ⟨by rfl, Hb0.out⟩
         · obtain rfl : res = false := by rw [HR.out]; simp [k5]
           have k5' : ((m3 : Int) == 0) = false := beq_eq_false_iff_ne.2 (by omega)
           clear k5
           go_wp2_with fail
           go_ret
           exact ⟨by rfl, Hb0.out⟩
       · obtain rfl : res = false := by rw [HR.out]; simp [k4]
         have k4' : ((m2 : Int) == 0) = false := beq_eq_false_iff_ne.2 (by omega)
         clear k4
         go_wp2_with fail
         go_ret
         exact ⟨by rfl, Hb0.out⟩
     · obtain rfl : res = false := by rw [HR.out]; simp [k3]
       have k3' : ((m1 : Int) == 0) = false := beq_eq_false_iff_ne.2 (by omega)
       clear k3
       go_wp2_with fail
       go_ret
       exact ⟨by rfl, Hb0.out⟩
   · obtain rfl : res = false := by rw [HR.out]; simp [k2]
     have k2' : (ph == 0) = false := beq_eq_false_iff_ne.2 k2
     clear k2
     go_wp2_with fail
     go_ret
     exact ⟨by rfl, Hb0.out⟩
 · obtain rfl : res = false := by rw [HR.out]; simp [k1]
   have k1' : (tr == 0) = false := beq_eq_false_iff_ne.2 k1
   clear k1
   go_wp2_with fail
   go_ret
   exact ⟨by rfl, Hb0.out⟩
end Go.Proofs.YtnkgakhnlbifdaaGreat
namespace Go.Proofs.YtnkgakhnlbifdaaGreat
open Go.RowKit
set_option maxRecDepth 100000 in
set_option maxHeartbeats 8000000 in
theorem refauditmay_calls (c : Cf) (who : Int) (x : Au) (p : Al) (w : World) (hA : AuIn w p x) :
 Calls Tryz.prog 52 #[cfV c, .int .i64 who, auAt x p] w (Says w (auB c who x)) := by
 have HK : Hid (KeptA w w.heap.size c x p ((w.alloc (.cells (cfCells c) 23)).alloc (.cells (auCells x (.slice p.a1 p.m1 p.c1) (.slice p.a2 p.m2 p.c2) (.slice p.a3 p.m3 p.c3)) 35))) :=
  ⟨below_two w _ _, (Whole.made w _ _).alloc _, Whole.made2 w _ _ _⟩
 have hbig : p.m1 ≤ 9223372036854775807 ∧ p.m2 ≤ 9223372036854775807 ∧ p.m3 ≤ 9223372036854775807 := ⟨by rw [hA.1.1]; exact hA.1.2.1, by rw [hA.2.1.1]; exact hA.2.1.2.1, by rw [hA.2.2.1]; exact hA.2.2.2.1⟩
 have hnone := fun w => refnone_calls x p w hA.1.1 hA.2.1.1 hA.2.2.1 hbig
 have HA := Lib.hid hA; clear hA
 obtain ⟨a1, m1, c1, a2, m2, c2, a3, m3, c3⟩ := p
 obtain ⟨n, q, r, p, kk, cc⟩ := c
 obtain ⟨tr, ph, told, use, inc, moved⟩ := x
 obtain ⟨hb1, hb2, hb3⟩ := hbig
 simp only at hb1 hb2 hb3
 obtain ⟨res, Hres⟩ : ∃ z, Hid (auB ⟨n, q, r, p, kk, cc⟩ who ⟨tr, ph, told, use, inc, moved⟩ = z) := ⟨_, rfl⟩
 have no : ¬ auOk ⟨n, q, r, p, kk, cc⟩ who ⟨tr, ph, told, use, inc, moved⟩ → res = false := fun h => Hres.out.symm.trans (auB_no h)
 have yes : auOk ⟨n, q, r, p, kk, cc⟩ who ⟨tr, ph, told, use, inc, moved⟩ → res = true := fun h => Hres.out.symm.trans (decide_eq_true h)
 have No := Lib.hid no; have Yes := Lib.hid yes; clear no yes
 rw [Hres.out]
 obtain ⟨ok, Hok⟩ : ∃ z, Hid (cfB ⟨n, q, r, p, kk, cc⟩ = z) := ⟨_, rfl⟩
 obtain ⟨nn, Hnn⟩ : ∃ z, Hid (noneA ⟨tr, ph, told, use, inc, moved⟩ = z) := ⟨_, rfl⟩
 have Hnone := Lib.hid hnone; clear hnone
 go_enter Tryz.func52, Tryz.ntmps52
 go_wp2_with fail
 refine (refcfg_calls ⟨n, q, r, p, kk, cc⟩ _).mono ?_
 rintro e w1 ⟨rfl, hb⟩
 rw [Hok.out]
 have HK1 := Lib.hid (HK.out.later hb)
 clear hb HK
 obtain ⟨d0, d1, d2, d3, d4, d5⟩ := config_cells HK1.out.2.1
 obtain ⟨e0, e1, e2, e3, e4, e5⟩ := au_cells HK1.out.2.2
 simp only at d0 d1 d2 d3 d4 d5 e0 e1 e2 e3 e4 e5
 cases ok with
 | false =>
   obtain rfl : res = false := No.out fun h => by
    have := cfB_yes h.1
    rw [Hok.out] at this
    cases this
   go_wp2_with fail
   go_ret
   exact ⟨by rfl, HK1.out.1⟩
 | true =>
 by_cases h1 : who < 0
 · obtain rfl : res = false := No.out fun h => by have := h.2.1.1; omega
   go_wp2_with fail
   go_ret
   exact ⟨by rfl, HK1.out.1⟩
 by_cases h2 : n ≤ who
 · obtain rfl : res = false := No.out fun h => by have h3 : who < n := h.2.1.2; omega
   go_wp2_with fail
   go_ret
   exact ⟨by rfl, HK1.out.1⟩
 have Hwho : Hid (0 ≤ who ∧ who < n) := ⟨by omega, by omega⟩
 go_wp2_with fail
 refine (Hnone.out _).mono ?_
 rw [Hnn.out]
 rintro e w2 ⟨rfl, hb⟩
 have HK2 := Lib.hid (HK1.out.later hb)
 clear hb HK1 d0 d1 d2 d3 d4 d5 e0 e1 e2 e3 e4 e5
 cases nn with
 | true =>
   obtain rfl : res = true := Yes.out ⟨cfB_ok Hok.out, Hwho.out, Or.inl (of_decide_eq_true Hnn.out)⟩
   go_wp2_with fail
   go_ret
   exact ⟨by rfl, HK2.out.1⟩
 | false =>
 have Hne : Hid (¬ (⟨tr, ph, told, use, inc, moved⟩ : Au) = au0) := of_decide_eq_false Hnn.out
 have no2 : ¬ runsOk ⟨n, q, r, p, kk, cc⟩ who ⟨tr, ph, told, use, inc, moved⟩ → res = false := fun h => No.out fun h2 => h2.2.2.elim Hne.out h
 have No2 := Lib.hid no2; clear no2
 obtain ⟨d0, d1, d2, d3, d4, d5⟩ := config_cells HK2.out.2.1
 obtain ⟨e0, e1, e2, e3, e4, e5⟩ := au_cells HK2.out.2.2
 simp only at d0 d1 d2 d3 d4 d5 e0 e1 e2 e3 e4 e5
 obtain ⟨⟨hl1, hB1⟩, ⟨hl2, hB2⟩, hl3, hB3⟩ := HA.out
 simp only at hl1 hB1 hl2 hB2 hl3 hB3
 have H1 := Lib.hid hl1; have H2 := Lib.hid hl2; have H3 := Lib.hid hl3
 have HB1 := Lib.hid hB1; have HB2 := Lib.hid hB2; have HB3 := Lib.hid hB3
 clear hl1 hl2 hl3 hB1 hB2 hB3
 by_cases g1 : tr ≤ 0
 · obtain rfl : res = false := No2.out fun h => by have h3 : 0 < tr := h.1.1; omega
   go_wp2_with fail
   go_ret
   exact ⟨by rfl, HK2.out.1⟩
 by_cases g2 : 1125899906842624 < tr
 · obtain rfl : res = false := No2.out fun h => by have h3 : tr ≤ 1125899906842624 := h.1.2; omega
   go_wp2_with fail
   go_ret
   exact ⟨by rfl, HK2.out.1⟩
 by_cases g3 : ph ≠ 1 ∧ ph ≠ 2
 · obtain rfl : res = false := No2.out fun h => by have h3 : ph = 1 ∨ ph = 2 := h.2.1; omega
   have g4 : (ph != 1) = true := bne_iff_ne.2 g3.1
   have g5 : (ph != 2) = true := bne_iff_ne.2 g3.2
   clear g3
   go_wp2_with fail
   go_ret
   exact ⟨by rfl, HK2.out.1⟩
 have G3 : Hid (ph = 1 ∨ ph = 2) := by show ph = 1 ∨ ph = 2; omega
 clear g3
 have bad : ∀ s : Bool, s = true → (s = true → res = false) → res = false := fun s h h2 => h2 h
 clear bad
 go_upto_region 5 with fail
 obtain ⟨z, Hz⟩ : ∃ z : Bool, Hid (z = !decide ((m1 : Int) = n ∧ (m2 : Int) = n ∧ (m3 : Int) = n ∧ told[who.toNat]?.getD false = false)) := ⟨_, rfl⟩
 go_cut [75] from 23 to 75 (fun s75 wx => s75 = .bool z ∧ Hid (KeptA w w.heap.size ⟨n, q, r, p, kk, cc⟩ ⟨tr, ph, told, use, inc, moved⟩ ⟨a1, m1, c1, a2, m2, c2, a3, m3, c3⟩ wx))
 case first =>
  by_cases h1 : (m1 : Int) = n
  · by_cases h2 : (m2 : Int) = n
    · by_cases h3 : (m3 : Int) = n
      · subst h1
        have e2' : m2 = m1 := by omega
        have e3' : m3 = m1 := by omega
        subst e2' e3'
        have hwh := Hwho.out
        obtain ⟨b, off, hbe, t0⟩ := (HB1.out.later HK2.out.1).at (i := who.toNat) (by have := H1.out; omega)
        subst hbe
        obtain ⟨tv, Htv⟩ : ∃ z, Hid (told[who.toNat]?.getD false = z) := ⟨_, rfl⟩
        rw [Htv.out] at t0
        have hz : z = tv := by rw [Hz.out, Htv.out]; cases tv <;> simp
        subst hz
        have k0 : (0 : Int) ≤ who := hwh.1
        have k1 : who < (m3 : Int) := hwh.2
        clear hwh
        rcases G3.out with rfl | rfl
        · go_wp2_with fail
          go_meet
          exact ⟨by simp; intro h; omega, HK2.out⟩
        · go_wp2_with fail
          go_meet
          exact ⟨by simp; intro h; omega, HK2.out⟩
      · obtain rfl : z = true := by rw [Hz.out]; simp [h3]
        have h3' : ((m3 : Int) != n) = true := bne_iff_ne.2 h3
        subst h1
        have e2' : m2 = m1 := by omega
        subst e2'
        clear h3
        rcases G3.out with rfl | rfl
        · go_wp2_with fail
          go_meet
          exact ⟨by rfl, HK2.out⟩
        · go_wp2_with fail
          go_meet
          exact ⟨by rfl, HK2.out⟩
    · obtain rfl : z = true := by rw [Hz.out]; simp [h2]
      have h2' : ((m2 : Int) != n) = true := bne_iff_ne.2 h2
      subst h1
      clear h2
      rcases G3.out with rfl | rfl
      · go_wp2_with fail
        go_meet
        exact ⟨by rfl, HK2.out⟩
      · go_wp2_with fail
        go_meet
        exact ⟨by rfl, HK2.out⟩
  · obtain rfl : z = true := by rw [Hz.out]; simp [h1]
    have h1' : ((m1 : Int) != n) = true := bne_iff_ne.2 h1
    clear h1
    rcases G3.out with rfl | rfl
    · go_wp2_with fail
      go_meet
      exact ⟨by rfl, HK2.out⟩
    · go_wp2_with fail
      go_meet
      exact ⟨by rfl, HK2.out⟩
 case rest =>
 clear HK2 d0 d1 d2 d3 d4 d5 e0 e1 e2 e3 e4 e5
 obtain ⟨rfl, HK3⟩ := hcut
 cases z with
 | true =>
   obtain rfl : res = false := No2.out fun h => by
    have h9 : decide ((m1 : Int) = n ∧ (m2 : Int) = n ∧ (m3 : Int) = n ∧ told[who.toNat]?.getD false = false) = true := by
     refine decide_eq_true ⟨?_, ?_, ?_, h.2.2.2.2.2.1⟩
     · rw [H1.out]; exact h.2.2.1
     · rw [H2.out]; exact h.2.2.2.1
     · rw [H3.out]; exact h.2.2.2.2.1
    have h8 := Hz.out
    rw [h9] at h8
    cases h8
   go_wp2_with fail
   go_ret
   exact ⟨by rfl, HK3.out.1⟩
 | false =>
   have hz : decide ((m1 : Int) = n ∧ (m2 : Int) = n ∧ (m3 : Int) = n ∧ told[who.toNat]?.getD false = false) = true := by
    have h8 := Hz.out
    cases h9 : decide ((m1 : Int) = n ∧ (m2 : Int) = n ∧ (m3 : Int) = n ∧ told[who.toNat]?.getD false = false) with
    | true => rfl
    | false => rw [h9] at h8; cases h8
   obtain ⟨y1, y2, y3, y4⟩ := of_decide_eq_true hz
   have hn16 : n ≤ 16 := (cfB_ok Hok.out).2.1
   have e2' : m2 = m1 := by omega
   have e3' : m3 = m1 := by omega
   subst e2' e3' y1
   have H4 := Lib.hid y4
   have Htr : Hid (0 < tr ∧ tr ≤ 1125899906842624) := ⟨by omega, by omega⟩
   clear hz y2 y3 y4 g1 g2 h1 h2
   go_wp2_with fail
   go_loopw [7] (fun s7 wr => ∃ k : Nat, k ≤ m3 ∧ s7 = .int .i64 k ∧ Hid (∀ i, i < k → (0 ≤ use[i]?.getD 0 ∧ use[i]?.getD 0 ≤ 1099511627776) ∧ (0 ≤ inc[i]?.getD 0 ∧ inc[i]?.getD 0 ≤ 1099511627776)) ∧ Hid (KeptA w w.heap.size ⟨m3, q, r, p, kk, cc⟩ ⟨tr, ph, told, use, inc, moved⟩ ⟨a1, m3, c1, a2, m3, c2, a3, m3, c3⟩ wr)) (fun s7 _ => m3 - (intOf s7).toNat)
   case atStart => exact ⟨0, Nat.zero_le _, rfl, fun z hz => absurd hz (Nat.not_lt_zero _), HK3.out⟩
   case round =>
    obtain ⟨k, hk, rfl, Hl, HKr⟩ := hrel
    obtain ⟨d0, d1, d2, d3, d4, d5⟩ := config_cells HKr.out.2.1
    obtain ⟨e0, e1, e2, e3, e4, e5⟩ := au_cells HKr.out.2.2
    simp only at d0 d1 d2 d3 d4 d5 e0 e1 e2 e3 e4 e5
    by_cases hlt : k < m3
    · obtain ⟨b2, o2, hbe, _, u0⟩ := (HB2.out.later HKr.out.1).at (i := k) (by have := H2.out; omega)
      subst hbe
      obtain ⟨b3, o3, hbe, _, v0⟩ := (HB3.out.later HKr.out.1).at (i := k) (by have := H3.out; omega)
      subst hbe
      obtain ⟨y, Hy⟩ : ∃ z, Hid (use[k]?.getD 0 = z) := ⟨_, rfl⟩
      obtain ⟨v, Hv⟩ : ∃ z, Hid (inc[k]?.getD 0 = z) := ⟨_, rfl⟩
      rw [Hy.out] at u0
      rw [Hv.out] at v0
      have k0 : (0 : Int) ≤ (k : Int) := by omega
      have k1 : (k : Int) < (m3 : Int) := by omega
      have hin : runsOk ⟨m3, q, r, p, kk, cc⟩ who ⟨tr, ph, told, use, inc, moved⟩ → (0 ≤ y ∧ y ≤ 1099511627776) ∧ (0 ≤ v ∧ v ≤ 1099511627776) := fun h => by
       have h9 : (0 ≤ use[k]?.getD 0 ∧ use[k]?.getD 0 ≤ 1099511627776) ∧ (0 ≤ inc[k]?.getD 0 ∧ inc[k]?.getD 0 ≤ 1099511627776) := h.2.2.2.2.2.2 k (by have := H1.out; show k < told.length; omega)
       rw [Hy.out, Hv.out] at h9
       exact h9
      have Hin := Lib.hid hin; clear hin
      by_cases f1 : y < 0
      · obtain rfl : res = false := No2.out fun h => by have := (Hin.out h).1.1; omega
        go_wp2_with fail
        go_ret
        exact ⟨by rfl, HKr.out.1⟩
      by_cases f2 : 1099511627776 < y
      · obtain rfl : res = false := No2.out fun h => by have := (Hin.out h).1.2; omega
        go_wp2_with fail
        go_ret
        exact ⟨by rfl, HKr.out.1⟩
      by_cases f3 : v < 0
      · obtain rfl : res = false := No2.out fun h => by have := (Hin.out h).2.1; omega
        go_wp2_with fail
        go_ret
        exact ⟨by rfl, HKr.out.1⟩
      by_cases f4 : 1099511627776 < v
      · obtain rfl : res = false := No2.out fun h => by have := (Hin.out h).2.2; omega
        go_wp2_with fail
        go_ret
        exact ⟨by rfl, HKr.out.1⟩
      have Hf : Hid ((0 ≤ y ∧ y ≤ 1099511627776) ∧ (0 ≤ v ∧ v ≤ 1099511627776)) := ⟨⟨by omega, by omega⟩, by omega, by omega⟩
      go_wp2_with fail
      go_roundw
      case rel => exact ⟨k + 1, by omega, by go_num, (fun z hz => by
       by_cases e : z = k
       · subst e; rw [Hy.out, Hv.out]; exact Hf.out
       · exact Hl.out z (by omega)), HKr.out⟩
      case measure => simp [intOf]; omega
    · have hall : ∀ i, i < told.length → (0 ≤ use[i]?.getD 0 ∧ use[i]?.getD 0 ≤ 1099511627776) ∧ (0 ≤ inc[i]?.getD 0 ∧ inc[i]?.getD 0 ≤ 1099511627776) := fun i hi => Hl.out i (by have := H1.out; omega)
      obtain rfl : res = true := Yes.out ⟨cfB_ok Hok.out, Hwho.out, Or.inr ⟨Htr.out, G3.out, by show (told.length : Int) = m3; rw [← H1.out], by show (use.length : Int) = m3; rw [← H2.out], by show (inc.length : Int) = m3; rw [← H3.out], H4.out, hall⟩⟩
      clear hall
      go_wp2_with fail
      go_ret
      exact ⟨by rfl, HKr.out.1⟩
end Go.Proofs.YtnkgakhnlbifdaaGreat
