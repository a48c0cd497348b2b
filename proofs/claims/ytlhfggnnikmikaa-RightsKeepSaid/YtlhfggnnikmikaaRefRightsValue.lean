/- The document's own Value: all rights together. No law is proved here. -/
import Derived.Test.YtlhfggnnikmikaaRefRightsRight
namespace Go.Proofs.Ytlhfggnnikmikaa
open Go.RowKit

/-- the rights of the first k together -/
def sumRights (c : Cf) (l : List Rw) : Nat → Int
  | 0 => 0
  | k + 1 => sumRights c l k + rightsV c l k
/-- all rights together, of right books; else 0 -/
def valueV (c : Cf) (l : List Rw) : Int := if rightOk c l then sumRights c l l.length else 0

theorem rightsV_bound {c : Cf} {l : List Rw} (hF : Fits l) (h16 : l.length ≤ 16) {who : Nat} (hw : who < l.length) : -(1125899906842624 * 17) ≤ rightsV c l who ∧ rightsV c l who ≤ 1125899906842624 * 17 := by
  have h1 := flow_bound hF hw l.length (Nat.le_refl _)
  have h2 := shareV_bound c who
  obtain ⟨_, h3, h4, h5, h6, _⟩ := hF who hw
  unfold rightsV
  omega
theorem sumRights_bound {c : Cf} {l : List Rw} (hF : Fits l) (h16 : l.length ≤ 16) : ∀ k, k ≤ l.length → -(1125899906842624 * 17 * (k : Int)) ≤ sumRights c l k ∧ sumRights c l k ≤ 1125899906842624 * 17 * (k : Int)
  | 0, _ => by simp [sumRights]
  | k + 1, hk => by
    have ih := sumRights_bound (c := c) hF h16 k (by omega)
    have h := rightsV_bound (c := c) hF h16 (who := k) (by omega)
    simp only [sumRights]
    omega

set_option maxRecDepth 100000 in
set_option maxHeartbeats 4000000 in
theorem refvalue_calls (c : Cf) (a : Option Addr) (m d : Nat) (l : List Rw) (hm : m = l.length) (w : World) (hB : Books w (.slice a m d) l) :
    Calls Try.prog 23 #[cfV c, .slice a m d] w (fun e w' => e = .returned (.int .i64 (valueV c l)) ∧ Below w.heap.size w w') := by
  have HW := Lib.hid (Whole.made w 23 (cfCells c))
  have Hb0 := Lib.hid (below_box w (.cells (cfCells c) 23))
  have HB := Lib.hid hB; clear hB
  obtain ⟨n, q, r, p, kk, cc⟩ := c
  have Hm := Lib.hid hm; clear hm
  obtain ⟨v, Hv⟩ : ∃ z, Hid (valueV ⟨n, q, r, p, kk, cc⟩ l = z) := ⟨_, rfl⟩
  rw [Hv.out]
  obtain ⟨ok, Hok⟩ : ∃ z, Hid (rightB ⟨n, q, r, p, kk, cc⟩ l = z) := ⟨_, rfl⟩
  go_enter Try.func23, Try.ntmps23
  go_wp2_with fail
  cases ok with
  | false =>
    obtain rfl : v = 0 := Hv.out.symm.trans (if_neg fun h => by
      have := decide_eq_true h
      rw [show decide (rightOk ⟨n, q, r, p, kk, cc⟩ l) = false from Hok.out] at this
      cases this)
    go_loopw [5, 6] (fun t i wr => t = .int .i64 0 ∧ i = .int .i64 0 ∧ Hid (Below w.heap.size w wr) ∧ Hid (Whole wr w.heap.size 23 (cfCells ⟨n, q, r, p, kk, cc⟩))) (fun _ _ _ => 0)
    case atStart => exact ⟨rfl, rfl, Hb0.out, HW.out⟩
    case round =>
      obtain ⟨rfl, rfl, Hb, HWr⟩ := hrel
      obtain ⟨d0, d1, d2, d3, d4, d5⟩ := config_cells HWr.out
      simp only at d0 d1 d2 d3 d4 d5
      go_wp2_with fail
      refine (refright_calls ⟨n, q, r, p, kk, cc⟩ a m d l Hm.out _ (HB.out.later Hb.out)).mono ?_
      rintro e w2 ⟨rfl, hb⟩
      rw [Hok.out]
      have Hb2 := Lib.hid (held_next Hb.out hb)
      clear hb d0 d1 d2 d3 d4 d5
      go_wp2_with fail
      go_ret
      exact ⟨by rfl, Hb2.out⟩
  | true =>
    have hR := rightB_ok Hok.out
    have hlen := hR.2.1
    have h16 := hR.len
    have HF := Lib.hid hR.fits
    have h16' : m ≤ 16 := by have := Hm.out; omega
    have hcm : n = (m : Int) := by have := Hm.out; simp only at hlen; omega
    have HvR : Hid (v = sumRights ⟨n, q, r, p, kk, cc⟩ l l.length) := by rw [← Hv.out]; unfold valueV; rw [if_pos hR]; exact rfl
    clear hR hlen h16
    subst hcm
    go_loopw [5, 6] (fun t i wr => ∃ (k : Nat) (T : Int), k ≤ m ∧ i = .int .i64 k ∧ t = .int .i64 T ∧ Hid (T = sumRights ⟨m, q, r, p, kk, cc⟩ l k) ∧ Hid (Below w.heap.size w wr) ∧ Hid (Whole wr w.heap.size 23 (cfCells ⟨m, q, r, p, kk, cc⟩))) (fun _ i _ => m - (intOf i).toNat)
    case atStart => exact ⟨0, 0, Nat.zero_le _, rfl, rfl, rfl, Hb0.out, HW.out⟩
    case round =>
      obtain ⟨k, T, hk, rfl, rfl, HT, Hb, HWr⟩ := hrel
      obtain ⟨d0, d1, d2, d3, d4, d5⟩ := config_cells HWr.out
      simp only at d0 d1 d2 d3 d4 d5
      go_wp2_with fail
      refine (refright_calls ⟨m, q, r, p, kk, cc⟩ a m d l Hm.out _ (HB.out.later Hb.out)).mono ?_
      rintro e w2 ⟨rfl, hb⟩
      rw [Hok.out]
      have Hb2 := Lib.hid (held_next Hb.out hb)
      have HW2 := Lib.hid (HWr.out.later hb HWr.out.lt)
      clear hb d0 d1 d2 d3 d4 d5
      obtain ⟨d0, d1, d2, d3, d4, d5⟩ := config_cells HW2.out
      simp only at d0 d1 d2 d3 d4 d5
      by_cases hlt : k < m
      · obtain ⟨x, Hx⟩ : ∃ z, Hid (rightsV ⟨m, q, r, p, kk, cc⟩ l k = z) := ⟨_, rfl⟩
        have hxb := rightsV_bound (c := ⟨m, q, r, p, kk, cc⟩) HF.out (by have := Hm.out; omega) (who := k) (by have := Hm.out; omega)
        rw [Hx.out] at hxb
        have hTb := sumRights_bound (c := ⟨m, q, r, p, kk, cc⟩) HF.out (by have := Hm.out; omega) k (by have := Hm.out; omega)
        rw [← HT.out] at hTb
        have hT0 : -(1125899906842624 * 17 * 16) ≤ T := by omega
        have hT1 : T ≤ 1125899906842624 * 17 * 16 := by omega
        obtain ⟨hx0, hx1⟩ := hxb
        clear hTb
        go_wp2_with fail
        refine (refof_calls ⟨m, q, r, p, kk, cc⟩ a m d l k Hm.out h16' hlt HF.out _ (HB.out.later Hb2.out)).mono ?_
        rintro e w3 ⟨rfl, hb⟩
        rw [Hx.out]
        have Hb3 := Lib.hid (held_next Hb2.out hb)
        have HW3 := Lib.hid (HW2.out.later hb HW2.out.lt)
        clear hb d0 d1 d2 d3 d4 d5
        go_wp2_with fail
        go_roundw
        case rel => exact ⟨k + 1, T + x, by omega, by go_num, rfl, show _ = _ by rw [HT.out, ← Hx.out]; rfl, Hb3.out, HW3.out⟩
        case measure => simp [intOf]; omega
      · have hkm : k = m := by omega
        have Hkm := Lib.hid hkm; clear hkm
        have HvT : Hid (v = T) := by rw [HvR.out, HT.out, Hkm.out, ← Hm.out]; exact rfl
        go_wp2_with fail
        go_ret
        exact ⟨by rw [HvT.out]; rfl, Hb2.out⟩
end Go.Proofs.Ytlhfggnnikmikaa
