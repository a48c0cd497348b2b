/- Package audit, walked: what an audit comes to. No law is proved here. -/
import Derived.Test.YtgonboccklpoaaaAuditMay
import Derived.Test.YtgonboccklpoaaaMg25
import Derived.Test.YtgonboccklpoaaaRightsRight
import Derived.Deep.QuietTactic
import Derived.BigQuiet
namespace Go.Proofs.Ytgonboccklpoaaa
open Go.RowKit

/-- all that was put in, less what was used, of the first k -/
def allSum (x : Au) : Nat → Int
  | 0 => 0
  | k + 1 => allSum x k + (x.inc[k]?.getD 0 - x.use[k]?.getD 0)
theorem all_other {who : Int} {x : Au} (h0 : 0 ≤ who) : ∀ k : Nat, allSum x k = otherA who x k + if who < (k : Int) then x.inc[who.toNat]?.getD 0 - x.use[who.toNat]?.getD 0 else 0
  | 0 => by rw [if_neg (by omega)]; rfl
  | k + 1 => by
    rw [allSum, otherA, all_other h0 k]
    by_cases e : (k : Int) = who
    · have e2 : who.toNat = k := by omega
      rw [if_neg (by omega), if_pos e, if_pos (by omega), e2]
    · rw [if_neg e]
      by_cases h : who < (k : Int)
      · rw [if_pos h, if_pos (by omega)]; omega
      · rw [if_neg h, if_neg (by omega)]; omega
theorem all_bound {c : Cf} {who : Int} {x : Au} (h : runsOk c who x) : ∀ k : Nat, k ≤ x.told.length → -(1099511627776 * (k : Int)) ≤ allSum x k ∧ allSum x k ≤ 1099511627776 * (k : Int)
  | 0, _ => ⟨by show -(1099511627776 * (0 : Int)) ≤ 0; omega, by show (0 : Int) ≤ 1099511627776 * (0 : Int); omega⟩
  | k + 1, hk => by
    have h1 := all_bound h k (by omega)
    have h2 := h.2.2.2.2.2.2 k (by omega)
    rw [allSum]
    omega
theorem ends_is {c : Cf} {who : Int} {x : Au} {l : List Rw} (h : auOk c who x) (hr : rightOk c l) :
    endsA c who x l = if alB who x 2 = true then (if x.moved = true ∨ (at_ l who.toNat).use ≠ x.use[who.toNat]?.getD 0 then (0, false, true) else (c.k + (at_ l who.toNat).inc - x.inc[who.toNat]?.getD 0 + allSum x x.told.length, true, true)) else (0, false, false) := by
  unfold endsA
  rw [alB_all h (by decide)]
  by_cases h2 : x.ph = 2 ∧ allA who x
  · rw [if_pos ⟨h, hr, h2⟩, if_pos (decide_eq_true h2)]
    have hl : who < (x.told.length : Int) := by
      rcases h.2.2 with h3 | h3
      · rw [h3] at h2; exact absurd h2.1 (by decide)
      · have := h3.2.2.1; have := h.2.1.2; omega
    rw [all_other h.2.1.1, if_pos hl]
    split
    · rfl
    · congr 1; omega
  · rw [if_neg (fun h3 => h2 h3.2.2), if_neg (by rw [decide_eq_false h2]; decide)]
theorem al_runs2 {c : Cf} {who : Int} {x : Au} (h : auOk c who x) (ha : alB who x 2 = true) : runsOk c who x := by
  rcases h.2.2 with h2 | h2
  · rw [h2] at ha; exact absurd (of_decide_eq_true ha).1 (by decide)
  · exact h2
set_option maxRecDepth 100000 in
set_option maxHeartbeats 8000000 in
theorem aEnds_calls (c : Cf) (who : Int) (x : Au) (p : Al) (a : Option Addr) (m cp : Nat) (l : List Rw) (hm : m = l.length) (w : World) (hA : AuIn w p x) (hB : Books w (.slice a m cp) l) :
    Calls Try.prog 14 #[cfV c, .int .i64 who, auAt x p, .slice a m cp] w (EndsA w (endsA c who x l)) := by
  have HK : Hid (KeptA w w.heap.size c x p ((w.alloc (.cells (cfCells c) 23)).alloc (.cells (auCells x (.slice p.a1 p.m1 p.c1) (.slice p.a2 p.m2 p.c2) (.slice p.a3 p.m3 p.c3)) 33))) :=
    ⟨below_two w _ _, (Whole.made w _ _).alloc _, Whole.made2 w _ _ _⟩
  have HC1 := Lib.hid (fun w hA => aMay_calls c who x p w hA)
  have HC2 := Lib.hid (fun w hB => rRight_calls c a m cp l hm w hB)
  have HC4 := Lib.hid (fun w hA => auall_calls who x p 2 w hA)
  have HA := Lib.hid hA; clear hA
  have HB := Lib.hid hB; clear hB
  have Hm := Lib.hid hm; clear hm
  obtain ⟨a1, m1, k1, a2, m2, k2, a3, m3, k3⟩ := p
  obtain ⟨n, q, r, p, kk, cc⟩ := c
  obtain ⟨tr, ph, told, use, inc, moved⟩ := x
  obtain ⟨res, Hres⟩ : ∃ z, Hid (endsA ⟨n, q, r, p, kk, cc⟩ who ⟨tr, ph, told, use, inc, moved⟩ l = z) := ⟨_, Lib.hid rfl⟩
  rw [Hres.out]
  obtain ⟨ok, Hok⟩ : ∃ z, Hid (auB ⟨n, q, r, p, kk, cc⟩ who ⟨tr, ph, told, use, inc, moved⟩ = z) := ⟨_, Lib.hid rfl⟩
  obtain ⟨rt, Hrt⟩ : ∃ z, Hid (rightB ⟨n, q, r, p, kk, cc⟩ l = z) := ⟨_, Lib.hid rfl⟩
  obtain ⟨al, Hal⟩ : ∃ z, Hid (alB who ⟨tr, ph, told, use, inc, moved⟩ 2 = z) := ⟨_, Lib.hid rfl⟩
  have no : ¬ (ok = true ∧ rt = true) → res = (0, false, false) := fun h => Hres.out.symm.trans (if_neg fun h2 => h ⟨Hok.out.symm.trans (decide_eq_true h2.1), Hrt.out.symm.trans (decide_eq_true h2.2.1)⟩)
  have No := Lib.hid no; clear no
  go_enter Try.func14, Try.ntmps14
  obtain ⟨d0, d1, d2, d3, d4, d5⟩ := config_cells HK.out.2.1
  obtain ⟨e0, e1, e2, e3, e4, e5⟩ := au_cells HK.out.2.2
  simp only at d0 d1 d2 d3 d4 d5 e0 e1 e2 e3 e4 e5
  go_wp2_with fail
  refine (HC1.out _ (HA.out.later HK.out.1)).mono ?_
  rw [Hok.out]
  rintro e w1 ⟨rfl, hb⟩
  have HK1 := Lib.hid (HK.out.later hb)
  clear hb HK d0 d1 d2 d3 d4 d5 e0 e1 e2 e3 e4 e5
  cases ok with
  | false =>
    obtain rfl := No.out (fun h => by cases h.1)
    go_wp2_with fail
    refine bodyPost_ret (v := .tuple #[.int .i64 0, .bool false, .bool false]) (by simp [results, Try.results14, go_sem]) rfl ⟨rfl, HK1.out.1⟩
  | true =>
  obtain ⟨d0, d1, d2, d3, d4, d5⟩ := config_cells HK1.out.2.1
  simp only at d0 d1 d2 d3 d4 d5
  go_wp2_with fail
  refine (HC2.out _ (HB.out.later HK1.out.1)).mono ?_
  rw [Hrt.out]
  rintro e w2 ⟨rfl, hb⟩
  have HK2 := Lib.hid (HK1.out.later hb)
  clear hb HK1 d0 d1 d2 d3 d4 d5
  cases rt with
  | false =>
    obtain rfl := No.out (fun h => by cases h.2)
    go_wp2_with fail
    refine bodyPost_ret (v := .tuple #[.int .i64 0, .bool false, .bool false]) (by simp [results, Try.results14, go_sem]) rfl ⟨rfl, HK2.out.1⟩
  | true =>
  clear No
  have Hau := Lib.hid (of_decide_eq_true Hok.out)
  have Hri := Lib.hid (of_decide_eq_true Hrt.out)
  have HN := Lib.hid (ends_is Hau.out Hri.out)
  obtain ⟨e0, e1, e2, e3, e4, e5⟩ := au_cells HK2.out.2.2
  simp only at e0 e1 e2 e3 e4 e5
  go_wp2_with fail
  refine (HC4.out _ (HA.out.later HK2.out.1)).mono ?_
  rw [Hal.out]
  rintro e w3 ⟨rfl, hb⟩
  have HK3 := Lib.hid (HK2.out.later hb)
  clear hb HK2 e0 e1 e2 e3 e4 e5
  cases al with
  | false =>
    obtain rfl : res = (0, false, false) := Hres.out.symm.trans (HN.out.trans (by rw [Hal.out]; rfl))
    go_wp2_with fail
    refine bodyPost_ret (v := .tuple #[.int .i64 0, .bool false, .bool false]) (by simp [results, Try.results14, go_sem]) rfl ⟨rfl, HK3.out.1⟩
  | true =>
  have hrun := al_runs2 Hau.out Hal.out
  have hw0 : 0 ≤ who := Hau.out.2.1.1
  have hwn : who < n := Hau.out.2.1.2
  have hlen3 : (told.length : Int) = n ∧ (use.length : Int) = n ∧ (inc.length : Int) = n := ⟨hrun.2.2.1, hrun.2.2.2.1, hrun.2.2.2.2.1⟩
  have hln : (l.length : Int) = n := Hri.out.2.1
  have hn16 : n ≤ 16 := Hau.out.1.2.1
  have hk0 : 0 ≤ kk ∧ kk ≤ 1099511627776 := by
    have h9 := Hau.out.1
    have h8 : 0 ≤ n * cc := Int.mul_nonneg (by omega) h9.2.2.2.2.2.2.2.2.2.1
    have h7 : kk + n * cc ≤ 1099511627776 := h9.2.2.2.2.2.2.2.2.2.2
    have h6 : 0 ≤ kk := h9.2.2.2.2.2.2.2.2.1
    omega
  have hm1 : m1 = told.length := HA.out.1.1
  have hm2 : m2 = use.length := HA.out.2.1.1
  have hm3 : m3 = inc.length := HA.out.2.2.1
  have hmm := Hm.out
  obtain ⟨b9, off9, A9, C9, rfl, hbw9, r0, r1, r2, hN9⟩ := (HB.out.later HK3.out.1).at (k := who.toNat) (by omega)
  have hfit := Hri.out.fits who.toNat (by omega)
  obtain ⟨hf1, hf2, hf3, hf4, hf5, -⟩ := hfit
  obtain ⟨ri, Hrin⟩ : ∃ z, Hid ((at_ l who.toNat).inc = z) := ⟨_, rfl⟩
  obtain ⟨ru, Hru⟩ : ∃ z, Hid ((at_ l who.toNat).use = z) := ⟨_, rfl⟩
  rw [Hrin.out] at r0 hf2 hf3
  rw [Hru.out] at r1
  obtain ⟨lm, Hlm⟩ : ∃ z, Hid (z = (at_ l who.toNat).out.length) := ⟨_, rfl⟩
  rw [← Hlm.out] at r2
  obtain ⟨b2, o2, hbe2, hbl2, u0⟩ := (HA.out.2.1.2.later HK3.out.1).at (i := who.toNat) (show who.toNat < use.length by omega)
  obtain ⟨b3, o3, hbe3, hbl3, v0⟩ := (HA.out.2.2.2.later HK3.out.1).at (i := who.toNat) (show who.toNat < inc.length by omega)
  simp only at hbe2 hbe3 u0 v0
  subst hbe2 hbe3
  obtain ⟨uw, Huw⟩ : ∃ z, Hid (use[who.toNat]?.getD 0 = z) := ⟨_, rfl⟩
  obtain ⟨iw, Hiw⟩ : ∃ z, Hid (inc[who.toNat]?.getD 0 = z) := ⟨_, rfl⟩
  have hiw := (hrun.2.2.2.2.2.2 who.toNat (show who.toNat < told.length by omega)).2
  simp only at hiw
  rw [Huw.out] at u0
  rw [Hiw.out] at v0 hiw
  have HNr : Hid (endsA ⟨n, q, r, p, kk, cc⟩ who ⟨tr, ph, told, use, inc, moved⟩ l = if moved = true ∨ ru ≠ uw then (0, false, true) else (kk + ri - iw + allSum ⟨tr, ph, told, use, inc, moved⟩ told.length, true, true)) := by
    have h9 := HN.out
    rw [Hal.out, if_pos rfl] at h9
    rw [Hrin.out, Hru.out, Huw.out, Hiw.out] at h9
    exact h9
  have hwm : who < (m : Int) := by omega
  have hw2 : who < (m2 : Int) := by omega
  have hw3 : who < (m3 : Int) := by omega
  obtain ⟨N, hNn⟩ : ∃ N : Nat, n = (N : Int) := ⟨n.toNat, by omega⟩
  subst hNn
  have HN3 : Hid (told.length = N ∧ use.length = N ∧ inc.length = N ∧ m2 = N ∧ m3 = N ∧ N ≤ 16) := by
    refine ⟨?_, ?_, ?_, ?_, ?_, ?_⟩ <;> omega
  have Hrun := Lib.hid hrun
  obtain ⟨d0, d1, d2, d3, d4, d5⟩ := config_cells HK3.out.2.1
  obtain ⟨e0, e1, e2, e3, e4, e5⟩ := au_cells HK3.out.2.2
  simp only at d0 d1 d2 d3 d4 d5 e0 e1 e2 e3 e4 e5
  have hbx := below_box w3 (.cells #[.int .i64 ri, .int .i64 ru, .slice A9 lm C9] 58)
  have HK4 := Lib.hid (HK3.out.later hbx)
  have HX4 := Lib.hid (Whole.made w3 58 #[.int .i64 ri, .int .i64 ru, .slice A9 lm C9])
  have hlt3 : w.heap.size + 1 < w3.heap.size := HK3.out.2.2.lt
  have hlt0 : w.heap.size < w3.heap.size := HK3.out.2.1.lt
  clear hm1 hm2 hm3 hmm hlen3 hln hwn hn16 hrun hN9 hf1 hf4 hf5 hbx
  cases moved with
  | true =>
    obtain rfl : res = (0, false, true) := Hres.out.symm.trans (HNr.out.trans (if_pos (Or.inl rfl)))
    go_wp2_with fail
    go_quiet (fail)
    go_wp2_with fail
    refine bodyPost_ret (v := .tuple #[.int .i64 0, .bool false, .bool true]) (by simp [results, Try.results14, go_sem]) rfl ⟨rfl, below_drewN HK4.out.1 _⟩
  | false =>
  by_cases hru : ru = uw
  rotate_left 1
  · obtain rfl : res = (0, false, true) := Hres.out.symm.trans (HNr.out.trans (if_pos (Or.inr hru)))
    have hru' : (ru != uw) = true := bne_iff_ne.2 hru
    clear hru
    go_wp2_with fail
    go_quiet (fail)
    go_wp2_with fail
    refine bodyPost_ret (v := .tuple #[.int .i64 0, .bool false, .bool true]) (by simp [results, Try.results14, go_sem]) rfl ⟨rfl, below_drewN HK4.out.1 _⟩
  have hru' : (ru != uw) = false := by simp [hru]
  obtain rfl : res = (kk + ri - iw + allSum ⟨tr, ph, told, use, inc, false⟩ told.length, true, true) := Hres.out.symm.trans (HNr.out.trans (if_neg (by simp [hru])))
  clear hru
  go_wp2_with fail
  go_quiet (fail)
  go_wp2_with fail
  go_quiet (fail)
  go_wp2_with fail
  clear d0 d1 d2 d3 d4 d5 e0 e1 e2 e3 e4 e5 r0 r1 r2 u0 v0 hru' hlt0 hlt3 hbw9 hbl2 hbl3 Hres HN HNr HX4 HC1 HC2 HC4
  have Hb1 : Hid (0 ≤ ri ∧ ri ≤ 1099511627776 ∧ 0 ≤ iw ∧ iw ≤ 1099511627776 ∧ 0 ≤ kk ∧ kk ≤ 1099511627776) := ⟨hf2, hf3, hiw.1, hiw.2, hk0.1, hk0.2⟩
  clear hf2 hf3 hiw hk0 hwm hw2 hw3
  go_loopw [8, 59] (fun s8 s59 wr => ∃ (k : Nat) (y : Int), k ≤ N ∧ s59 = .int .i64 (k : Int) ∧ s8 = .int .i64 y ∧ Hid (kk + ri - iw + allSum ⟨tr, ph, told, use, inc, false⟩ k = y) ∧ Hid (KeptA w w.heap.size ⟨(N : Int), q, r, p, kk, cc⟩ ⟨tr, ph, told, use, inc, false⟩ ⟨a1, m1, k1, some ⟨b2, o2, none⟩, m2, k2, some ⟨b3, o3, none⟩, m3, k3⟩ wr)) (fun _ s59 _ => N - (intOf s59).toNat)
  case atStart => exact ⟨0, _, Nat.zero_le _, rfl, rfl, by show kk + ri - iw + 0 = _; omega, HK4.out.later (below_drewN (Below.refl _ _) _)⟩
  case round =>
    obtain ⟨k, y, hk, rfl, rfl, Hy, HKr⟩ := hrel
    by_cases hlt : k < N
    · obtain ⟨d0, d1, d2, d3, d4, d5⟩ := config_cells HKr.out.2.1
      obtain ⟨e0, e1, e2, e3, e4, e5⟩ := au_cells HKr.out.2.2
      simp only at d0 d1 d2 d3 d4 d5 e0 e1 e2 e3 e4 e5
      obtain ⟨b2', o2', hbe2, -, u0⟩ := (HA.out.2.1.2.later HKr.out.1).at (i := k) (show k < use.length by have := HN3.out; omega)
      obtain ⟨b3', o3', hbe3, -, v0⟩ := (HA.out.2.2.2.later HKr.out.1).at (i := k) (show k < inc.length by have := HN3.out; omega)
      simp only [Option.some.injEq, Addr.mk.injEq, and_true] at hbe2 hbe3 u0 v0
      obtain ⟨rfl, rfl⟩ := hbe2
      obtain ⟨rfl, rfl⟩ := hbe3
      obtain ⟨u, Hu⟩ : ∃ z, Hid (use[k]?.getD 0 = z) := ⟨_, rfl⟩
      obtain ⟨v, Hv⟩ : ∃ z, Hid (inc[k]?.getD 0 = z) := ⟨_, rfl⟩
      rw [Hu.out] at u0
      rw [Hv.out] at v0
      have huv := Hrun.out.2.2.2.2.2.2 k (show k < told.length by have := HN3.out; omega)
      rw [show (Au.use ⟨tr, ph, told, use, inc, false⟩)[k]?.getD 0 = u from Hu.out, show (Au.inc ⟨tr, ph, told, use, inc, false⟩)[k]?.getD 0 = v from Hv.out] at huv
      have hyb : -17592186044416 * 2 ≤ y ∧ y ≤ 17592186044416 * 2 := by
        have h1 := all_bound Hrun.out k (show k ≤ told.length by have := HN3.out; omega)
        have h2 := Hy.out
        have h3 := Hb1.out
        have h4 := HN3.out
        omega
      have k0 : (0 : Int) ≤ (k : Int) := by omega
      have k2' : (k : Int) < (m2 : Int) := by have := HN3.out; omega
      have k3' : (k : Int) < (m3 : Int) := by have := HN3.out; omega
      have kN : (k : Int) < (N : Int) := by omega
      have hN16 : N ≤ 16 := HN3.out.2.2.2.2.2
      have hnext : Hid (kk + ri - iw + allSum ⟨tr, ph, told, use, inc, false⟩ (k + 1) = y + (v - u)) := by
        show kk + ri - iw + (allSum ⟨tr, ph, told, use, inc, false⟩ k + (inc[k]?.getD 0 - use[k]?.getD 0)) = _
        rw [Hu.out, Hv.out]
        have h2 := Hy.out
        omega
      go_wp2_with fail
      go_quiet (fail)
      go_wp2_with fail
      go_roundw
      case rel => exact ⟨k + 1, _, by omega, by go_num, rfl, hnext.out, HKr.out.later (below_drewN (Below.refl _ _) _)⟩
      case measure => simp [intOf]; omega
    · have hkN : k = N := by omega
      have hfin : kk + ri - iw + allSum ⟨tr, ph, told, use, inc, false⟩ told.length = y := by rw [HN3.out.1, ← hkN]; exact Hy.out
      have Hfin := Lib.hid hfin
      clear hfin Hy
      subst hkN
      go_wp2_with fail
      refine bodyPost_ret (v := .tuple #[.int .i64 y, .bool true, .bool true]) (by simp [results, Try.results14, go_sem]) rfl ⟨by rw [Hfin.out], HKr.out.1⟩
end Go.Proofs.Ytgonboccklpoaaa
