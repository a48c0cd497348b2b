/- RightsShares, walked. -/
import Derived.Test.YtlhfggnnikmikaaRightsAwake
import Derived.Test.YtlhfggnnikmikaaRightsShareMath
import Derived.Deep.RegionHeld3
namespace Go.Proofs.Ytlhfggnnikmikaa
open Go.RowKit

set_option maxRecDepth 100000 in
set_option maxHeartbeats 8000000 in
theorem rightsshares_law (c : Cf) (w : World) : Calls Try.prog 7 #[cfV c] w (Says w true) := by
  have HW0 := Lib.hid (Whole.made w 23 (cfCells c))
  have Hb0 := Lib.hid (below_box w (.cells (cfCells c) 23))
  obtain ⟨ok, Hok⟩ : ∃ z, Hid (cfB c = z) := ⟨_, rfl⟩
  obtain ⟨L, HL⟩ : ∃ z, Hid (newL c = z) := ⟨_, rfl⟩
  obtain ⟨nl, Hnl⟩ : ∃ z, Hid (L.length = z) := ⟨_, rfl⟩
  obtain ⟨n, q, r, p, kk, cc⟩ := c
  go_enter Try.func7, Try.ntmps7
  go_wp2_with fail
  refine (awake5 _).mono ?_
  rintro e w1 ⟨rfl, hb⟩
  have Hb1 := Lib.hid (held_next Hb0.out hb)
  have HW1 := Lib.hid (HW0.out.later hb HW0.out.lt)
  clear hb
  obtain ⟨d0, d1, d2, d3, d4, d5⟩ := config_cells HW1.out
  simp only at d0 d1 d2 d3 d4 d5
  go_wp2_with fail
  refine (rMay_calls ⟨n, q, r, p, kk, cc⟩ _).mono ?_
  rintro e w2 ⟨rfl, hb⟩
  rw [Hok.out]
  have Hb2 := Lib.hid (held_next Hb1.out hb)
  have HW2 := Lib.hid (HW1.out.later hb HW1.out.lt)
  clear hb d0 d1 d2 d3 d4 d5
  obtain ⟨d0, d1, d2, d3, d4, d5⟩ := config_cells HW2.out
  simp only at d0 d1 d2 d3 d4 d5
  cases ok with
  | false =>
    have hL : L = [] := HL.out.symm.trans (if_neg fun h => by
      have := cfB_yes h
      rw [Hok.out] at this
      cases this)
    go_wp2_with fail
    refine (rNew_calls ⟨n, q, r, p, kk, cc⟩ _).mono ?_
    rw [HL.out, hL]
    rintro e w3 ⟨A, C, rfl, hB, hb⟩
    have Hb3 := Lib.hid (held_next Hb2.out hb)
    clear hb hB d0 d1 d2 d3 d4 d5
    go_wp2_with fail
    go_ret
    exact ⟨by simp, Hb3.out⟩
  | true =>
  have hok := cfB_ok Hok.out
  obtain ⟨m, hmn⟩ : ∃ m : Nat, n = (m : Int) := ⟨n.toNat, by have := hok.1; simp only at this; omega⟩
  subst hmn
  have h16 : m ≤ 16 := by have := hok.2.1; simp only at this; omega
  have hn1 : (1 : Int) ≤ (m : Int) := by have := hok.1; simp only at this; omega
  have hk0 : 0 ≤ kk := hok.2.2.2.2.2.2.2.2.1
  have hkm : kk ≤ 1099511627776 := by
    have h1 := hok.2.2.2.2.2.2.2.2.2.1
    have h2 := hok.2.2.2.2.2.2.2.2.2.2
    simp only at h1 h2
    have := Int.mul_nonneg (show (0 : Int) ≤ (m : Int) by omega) h1
    omega
  have hLm : nl = m := by rw [← Hnl.out, ← HL.out, len_new hok]; simp
  subst hLm
  obtain ⟨s, Hs⟩ : ∃ s, Hid (kk / (nl : Int) = s) := ⟨_, rfl⟩
  have hs0 : 0 ≤ s := by rw [← Hs.out]; exact Int.ediv_nonneg hk0 (by omega)
  have hs1 : s ≤ 1099511627776 := by rw [← Hs.out]; exact Int.le_trans (Int.ediv_le_self _ hk0) hkm
  have HOk := Lib.hid hok
  clear hok
  have hne : ((nl : Int) == 0) = false := beq_eq_false_iff_ne.2 (by omega)
  have hne' : (nl : Int) ≠ 0 := by omega
  have hne2 : ¬ nl = 0 := by omega
  go_wp2_with fail
  refine (rNew_calls ⟨nl, q, r, p, kk, cc⟩ _).mono ?_
  rw [HL.out]
  rintro e w3 ⟨A, C, rfl, hB, hb⟩
  rw [Hnl.out] at hB ⊢
  have HB3 := Lib.hid hB
  have Hb3 := Lib.hid (held_next Hb2.out hb)
  have HW3 := Lib.hid (HW2.out.later hb HW2.out.lt)
  clear hb hB d0 d1 d2 d3 d4 d5
  go_wp2_with fail
  go_loopw [3, 5] (fun t i wr => ∃ (k : Nat) (T : Int), k ≤ nl ∧ i = .int .i64 k ∧ t = .int .i64 T ∧ Hid (T = sumShares ⟨nl, q, r, p, kk, cc⟩ k) ∧ Hid (Below w.heap.size w wr) ∧ Hid (Whole wr w.heap.size 23 (cfCells ⟨nl, q, r, p, kk, cc⟩)) ∧ Hid (Books wr (.slice A nl C) L)) (fun _ i _ => nl - (intOf i).toNat)
  case atStart => exact ⟨0, 0, Nat.zero_le _, rfl, rfl, rfl, Hb3.out, HW3.out, HB3.out⟩
  case round =>
    obtain ⟨k, T, hk, rfl, rfl, HT, Hb, HWr, HBr⟩ := hrel
    obtain ⟨d0, d1, d2, d3, d4, d5⟩ := config_cells HWr.out
    simp only at d0 d1 d2 d3 d4 d5
    have hTb := sumShares_bound HOk.out k (by simp only; omega)
    rw [← HT.out] at hTb
    obtain ⟨hT0, hT1⟩ := hTb
    have hT2 : T ≤ 1099511627777 * 16 := by omega
    clear hT1
    by_cases hlt : k < nl
    · obtain ⟨x, Hx⟩ : ∃ z, Hid (shareV ⟨nl, q, r, p, kk, cc⟩ k = z) := ⟨_, rfl⟩
      have hx := share_most HOk.out (k := k) (by simp only; omega)
      have Ho := Lib.hid (of_new HOk.out (k := k) (by simp only; omega))
      rw [HL.out, Hx.out] at Ho
      rw [Hx.out] at hx
      simp only at hx
      rw [Hs.out] at hx
      obtain ⟨hx0, hx1⟩ := hx
      go_wp2_with fail
      refine (rShare_calls ⟨nl, q, r, p, kk, cc⟩ k _).mono ?_
      rintro e w4 ⟨rfl, hb⟩
      rw [Hx.out]
      have Hb4 := Lib.hid (held_next Hb.out hb)
      have HW4 := Lib.hid (HWr.out.later hb HWr.out.lt)
      have HB4 := Lib.hid (HBr.out.later hb)
      clear hb d0 d1 d2 d3 d4 d5
      obtain ⟨d0, d1, d2, d3, d4, d5⟩ := config_cells HW4.out
      simp only at d0 d1 d2 d3 d4 d5
      have hq : kk / (nl : Int) = s := Hs.out
      have hq' : kk.tdiv (nl : Int) = s := by rw [← hq, Int.tdiv_eq_ediv_of_nonneg hk0]
      have hl1 : ¬ x < s := by omega
      have hl2 : ¬ s + 1 < x := by omega
      go_wp2_with fail
      refine (rOf_calls ⟨nl, q, r, p, kk, cc⟩ A nl C L k Hnl.out.symm _ HB4.out).mono ?_
      rintro e w5 ⟨rfl, hb⟩
      rw [Ho.out]
      have Hb5 := Lib.hid (held_next Hb4.out hb)
      have HW5 := Lib.hid (HW4.out.later hb HW4.out.lt)
      have HB5 := Lib.hid (HB4.out.later hb)
      clear hb d0 d1 d2 d3 d4 d5
      go_wp2_with fail
      go_roundw
      case rel => exact ⟨k + 1, T + x, by omega, by go_num, rfl, show _ = _ by rw [HT.out, ← Hx.out]; rfl, Hb5.out, HW5.out, HB5.out⟩
      case measure => simp [intOf]; omega
    · have hkm : k = nl := by omega
      have hT : T = kk := by
        have h1 := HT.out
        rw [hkm, sumShares_all HOk.out nl rfl] at h1
        exact h1
      subst hT
      have Hr := Lib.hid (show rightB ⟨nl, q, r, p, T, cc⟩ L = true by rw [← HL.out]; exact decide_eq_true (right_new HOk.out))
      have Hv := Lib.hid (show valueV ⟨nl, q, r, p, T, cc⟩ L = T by rw [← HL.out]; exact value_new HOk.out)
      have KP : Hid (∀ w', Below wr.heap.size wr w' → Below wr.heap.size wr w' ∧ w'.cell? ⟨w.heap.size, 0, none⟩ = some (.int .i64 (nl : Int)) ∧ w'.cell? ⟨w.heap.size, 1, none⟩ = some (.int .i64 q) ∧ w'.cell? ⟨w.heap.size, 2, none⟩ = some (.int .i64 r) ∧
          w'.cell? ⟨w.heap.size, 3, none⟩ = some (.int .i64 p) ∧ w'.cell? ⟨w.heap.size, 4, none⟩ = some (.int .i64 T) ∧ w'.cell? ⟨w.heap.size, 5, none⟩ = some (.int .i64 cc)) := fun w' h => ⟨h, config_cells (HWr.out.later h HWr.out.lt)⟩
      have OR : Hid (∀ w', Below wr.heap.size wr w' → Calls Try.prog 19 #[cfV ⟨nl, q, r, p, T, cc⟩, .slice A nl C] w' (Says w' true)) := by
        rw [← Hr.out]
        exact fun w' h => refright_calls _ A nl C L Hnl.out.symm w' (HBr.out.later h)
      have OV : Hid (∀ w', Below wr.heap.size wr w' → Calls Try.prog 22 #[cfV ⟨nl, q, r, p, T, cc⟩, .slice A nl C] w' (Num w' T)) := fun w' h => (rValue_calls _ A nl C L Hnl.out.symm w' (HBr.out.later h)).mono fun _ _ h2 => by rw [Hv.out] at h2; exact h2
      clear d1 d2 d3 d4 d5
      go_wp2_with fail
      go_region_held3 (fun w' => Below wr.heap.size wr w' ∧ w'.cell? ⟨w.heap.size, 0, none⟩ = some (.int .i64 (nl : Int)) ∧ w'.cell? ⟨w.heap.size, 1, none⟩ = some (.int .i64 q) ∧ w'.cell? ⟨w.heap.size, 2, none⟩ = some (.int .i64 r) ∧
          w'.cell? ⟨w.heap.size, 3, none⟩ = some (.int .i64 p) ∧ w'.cell? ⟨w.heap.size, 4, none⟩ = some (.int .i64 T) ∧ w'.cell? ⟨w.heap.size, 5, none⟩ = some (.int .i64 cc))
        (first | exact KP.out _ (Below.refl _ _).drew | exact KP.out _ hS1 | exact KP.out _ hS2)
        (first | (go_at_call 19; have hcur := (‹Below wr.heap.size wr _ ∧ _ ∧ _›).1; refine (OR.out _ hcur).mono ?_; rintro ee w3 ⟨rfl, hb3⟩; have hS1 := held_next hcur hb3) | (go_at_call 22; have hcur := (‹Below wr.heap.size wr _ ∧ _ ∧ _›).1; refine (OV.out _ hcur).mono ?_; rintro ee w4 ⟨rfl, hb4⟩; have hS2 := held_next hcur hb4))
      go_wp2_with fail
      go_ret
      exact ⟨by rfl, held_next Hb.out (‹Below wr.heap.size wr _ ∧ _ ∧ _›).1⟩
end Go.Proofs.Ytlhfggnnikmikaa
