/- The document's own Put and Take. No law is proved here. -/
import Derived.Test.YtlhfggnnikmikaaRefRightsAsked
import Derived.Test.YtlhfggnnikmikaaRefRightsJoin
import Derived.Test.YtlhfggnnikmikaaOwnSet
import Derived.BigQuiet
namespace Go.Proofs.Ytlhfggnnikmikaa
open Go.RowKit

theorem askedV_cases (c : Cf) (l : List Rw) (who amount : Int) : askedV c l who amount = 0 ∨ askedV c l who amount = 1 ∨ askedV c l who amount = 2 := by
  unfold askedV
  split
  · split
    · exact Or.inl rfl
    · exact Or.inr (Or.inr rfl)
  · exact Or.inr (Or.inl rfl)
theorem cf_most {c : Cf} (h : cfOk c) : 0 ≤ c.c ∧ c.c ≤ 1099511627776 := by
  obtain ⟨h1, _, _, _, _, _, _, _, h9, h10, h11⟩ := h
  refine ⟨h10, ?_⟩
  have := Int.mul_le_mul_of_nonneg_right h1 h10
  omega

/-- put in -/
def putR (c : Cf) (l : List Rw) (who amount : Int) : List Rw × Int :=
  if askedV c l who amount = 0 then
    (if amount ≤ c.c - (at_ l who.toNat).inc then (l.set who.toNat ⟨(at_ l who.toNat).inc + amount, (at_ l who.toNat).use, (at_ l who.toNat).out⟩, 0) else ([], 4))
  else ([], askedV c l who amount)

set_option maxRecDepth 100000 in
set_option maxHeartbeats 4000000 in
theorem refput_calls (c : Cf) (a : Option Addr) (m d : Nat) (l : List Rw) (who amount : Int) (hm : m = l.length) (w : World) (hB : Books w (.slice a m d) l) :
    Calls Try.prog 30 #[cfV c, .slice a m d, .int .i64 who, .int .i64 amount] w (JoinedB w (putR c l who amount)) := by
  have HW := Lib.hid (Whole.made w 23 (cfCells c))
  have Hb0 := Lib.hid (below_box w (.cells (cfCells c) 23))
  have HB := Lib.hid hB; clear hB
  have Hm := Lib.hid hm; clear hm
  obtain ⟨n, q, r, p, kk, cc⟩ := c
  obtain ⟨ee, He⟩ : ∃ z, Hid (askedV ⟨n, q, r, p, kk, cc⟩ l who amount = z) := ⟨_, rfl⟩
  obtain ⟨res, Hres⟩ : ∃ z, Hid (putR ⟨n, q, r, p, kk, cc⟩ l who amount = z) := ⟨_, rfl⟩
  rw [Hres.out]
  go_enter Try.func30, Try.ntmps30
  go_wp2_with fail
  refine (refasked_calls ⟨n, q, r, p, kk, cc⟩ a m d l who amount Hm.out _ (HB.out.later Hb0.out)).mono ?_
  rintro e w1 ⟨rfl, hb⟩
  rw [He.out]
  have Hb1 := Lib.hid (held_next Hb0.out hb)
  have HW1 := Lib.hid (HW.out.later hb HW.out.lt)
  clear hb
  obtain ⟨d0, d1, d2, d3, d4, d5⟩ := config_cells HW1.out
  simp only at d0 d1 d2 d3 d4 d5
  have hc := askedV_cases ⟨n, q, r, p, kk, cc⟩ l who amount
  rw [He.out] at hc
  rcases hc with rfl | rfl | rfl
  · have hz := askedV_zero He.out
    obtain ⟨hok, h0, h1, h2, h3⟩ := hz
    simp only at h1
    have hmost := cf_most hok.1
    simp only at hmost
    have h16 := hok.len
    have hlen := hok.2.1
    simp only at hlen
    have hF := hok.fits
    obtain ⟨k, rfl⟩ : ∃ k : Nat, who = (k : Int) := ⟨who.toNat, by omega⟩
    have hkl : k < l.length := by omega
    obtain ⟨hf0, hf1, hf2, hf3, hf4, _⟩ := hF k hkl
    have HF := Lib.hid hF
    obtain ⟨b, off, A, C, rfl, hbw, c0, c1, c2, hN⟩ := (HB.out.later Hb1.out).at (k := k) hkl
    clear hN c1 c2 hok hF
    obtain ⟨ro, Hro⟩ : ∃ z, Hid (at_ l k = z) := ⟨_, rfl⟩
    rw [Hro.out] at c0 hf0 hf1 hf2 hf3 hf4
    have HP : Hid (res = if amount ≤ cc - ro.inc then (l.set k ⟨ro.inc + amount, ro.use, ro.out⟩, 0) else ([], 4)) := by
      rw [← Hro.out]
      exact Hres.out.symm.trans (if_pos He.out)
    have k1 : (k : Int) < (m : Int) := by have := Hm.out; omega
    have k0 : (0 : Int) ≤ (k : Int) := by omega
    obtain ⟨x, Hx⟩ : ∃ z, Hid (ro.inc = z) := ⟨_, rfl⟩
    rw [Hx.out] at c0 hf1 hf2 HP
    by_cases hgt : amount > cc - x
    · obtain rfl : res = ([], 4) := HP.out.trans (if_neg (by omega))
      have hd : decide (cc - x < amount) = true := decide_eq_true (by omega)
      go_wp2_with fail
      go_quiet (fail)
      go_wp2_with fail
      go_ret2
      exact ⟨none, 0, by rfl, books_nil _ _ _ (fun _ => rfl), below_drewN Hb1.out _⟩
    · obtain rfl : res = (l.set k ⟨x + amount, ro.use, ro.out⟩, 0) := HP.out.trans (if_pos (by omega))
      have hd : decide (cc - x < amount) = false := decide_eq_false (by omega)
      go_wp2_with fail
      go_quiet (fail)
      go_wp2_with fail
      have Hbd := Lib.hid (below_drewN Hb1.out nq)
      refine (refcopy_calls (some ⟨b, off, none⟩) m d l Hm.out (by have := Hm.out; omega) (fun q hq => by have := (HF.out q hq).1; omega) _ (HB.out.later Hbd.out)).mono ?_
      rintro e w2 ⟨A2, C2, rfl, hO, hb⟩
      have Hb2 := Lib.hid (held_next Hbd.out hb)
      have hsz := Hbd.out.size
      obtain ⟨g, hG⟩ := hO
      obtain ⟨bb, cap, hv, hbb, hblt, hfz, hcs, hG2⟩ := ownG_set (r := ⟨x + amount, ro.use, ro.out⟩) (j := 0) hG hkl (by decide) (x + amount) (by rw [Hro.out]) rfl (by rw [Hro.out]; rfl)
      simp only [Value.slice.injEq] at hv
      obtain ⟨rfl, _, rfl⟩ := hv
      have e0 := hcs k 0 hkl (by decide)
      rw [show rowCell l g k 0 = .int .i64 x by unfold rowCell; rw [if_pos rfl, Hro.out, Hx.out], Nat.add_zero] at e0
      rw [Nat.add_zero] at hG2
      have y0 := hfz (k * 3)
      obtain ⟨A3, C3, hv3, hBk⟩ := OwnBooks.books ⟨g, hG2⟩ (by rw [List.length_set]; omega) (fun q hq => by
        rw [List.length_set] at hq
        rw [at_set hkl]
        by_cases hqk : q = k
        · rw [if_pos hqk]; show ro.out.length ≤ _; omega
        · rw [if_neg hqk]; have := (HF.out q hq).1; omega)
      have Hv3 := Lib.hid hv3
      have HBk := Lib.hid hBk
      have HbE : Hid (Below w.heap.size w (w2.setCell ⟨bb, k * 3, none⟩ (.int .i64 (x + amount)))) := Hb2.out.setCell (p := ⟨bb, k * 3, none⟩) (by show w.heap.size ≤ bb; omega) _
      have Hml := Lib.hid (show (l.length : Int) = (m : Int) by rw [Hm.out])
      have k2 : (k : Int) < (l.length : Int) := by omega
      clear hb hG hcs hfz hG2 hv3 hBk c0 d0 d1 d2 d3 d4 d5 hlen
      go_wp2_with fail
      go_ret2
      exact ⟨A3, C3, by rw [← Hv3.out]; rfl, HBk.out, HbE.out⟩
  · obtain rfl : res = ([], 1) := Hres.out.symm.trans (by unfold putR; rw [He.out]; exact if_neg (by decide))
    go_wp2_with fail
    go_quiet (fail)
    go_wp2_with fail
    go_ret2
    exact ⟨none, 0, by rfl, books_nil _ _ _ (fun _ => rfl), below_drewN Hb1.out _⟩
  · obtain rfl : res = ([], 2) := Hres.out.symm.trans (by unfold putR; rw [He.out]; exact if_neg (by decide))
    go_wp2_with fail
    go_quiet (fail)
    go_wp2_with fail
    go_ret2
    exact ⟨none, 0, by rfl, books_nil _ _ _ (fun _ => rfl), below_drewN Hb1.out _⟩
end Go.Proofs.Ytlhfggnnikmikaa
