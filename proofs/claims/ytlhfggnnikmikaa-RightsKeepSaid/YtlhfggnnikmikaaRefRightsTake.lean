/- The document's own Take. No law is proved here. -/
import Derived.Test.YtlhfggnnikmikaaRefRightsPut
namespace Go.Proofs.Ytlhfggnnikmikaa
open Go.RowKit

/-- taken out -/
def takeR (c : Cf) (l : List Rw) (who amount : Int) : List Rw × Int :=
  if askedV c l who amount = 0 then
    (if amount ≤ rightsV c l who.toNat then (if (at_ l who.toNat).use + amount ≤ 1099511627776 then (l.set who.toNat ⟨(at_ l who.toNat).inc, (at_ l who.toNat).use + amount, (at_ l who.toNat).out⟩, 0) else ([], 6)) else ([], 7))
  else ([], askedV c l who amount)

set_option maxRecDepth 100000 in
set_option maxHeartbeats 4000000 in
theorem reftake_calls (c : Cf) (a : Option Addr) (m d : Nat) (l : List Rw) (who amount : Int) (hm : m = l.length) (w : World) (hB : Books w (.slice a m d) l) :
    Calls Try.prog 31 #[cfV c, .slice a m d, .int .i64 who, .int .i64 amount] w (JoinedB w (takeR c l who amount)) := by
  have HW := Lib.hid (Whole.made w 23 (cfCells c))
  have Hb0 := Lib.hid (below_box w (.cells (cfCells c) 23))
  have HB := Lib.hid hB; clear hB
  have Hm := Lib.hid hm; clear hm
  obtain ⟨n, q, r, p, kk, cc⟩ := c
  obtain ⟨ee, He⟩ : ∃ z, Hid (askedV ⟨n, q, r, p, kk, cc⟩ l who amount = z) := ⟨_, rfl⟩
  obtain ⟨res, Hres⟩ : ∃ z, Hid (takeR ⟨n, q, r, p, kk, cc⟩ l who amount = z) := ⟨_, rfl⟩
  rw [Hres.out]
  go_enter Try.func31, Try.ntmps31
  go_wp2_with fail
  refine (refasked_calls ⟨n, q, r, p, kk, cc⟩ a m d l who amount Hm.out _ (HB.out.later Hb0.out)).mono ?_
  rintro e w1 ⟨rfl, hb⟩
  rw [He.out]
  have Hb1 := Lib.hid (held_next Hb0.out hb)
  have HW1 := Lib.hid (HW.out.later hb HW.out.lt)
  clear hb
  obtain ⟨d0, d1, d2, d3, d4, d5⟩ := config_cells HW1.out
  simp only at d0 d1 d2 d3 d4 d5
  have hc := askedV_cases ⟨n, q, r, p, kk, cc⟩ l who amount
  rw [He.out] at hc
  rcases hc with rfl | rfl | rfl
  · have hz := askedV_zero He.out
    obtain ⟨hok, h0, h1, h2, h3⟩ := hz
    simp only at h1
    have hmost := cf_most hok.1
    simp only at hmost
    have h16 := hok.len
    have hlen := hok.2.1
    simp only at hlen
    have hF := hok.fits
    obtain ⟨k, rfl⟩ : ∃ k : Nat, who = (k : Int) := ⟨who.toNat, by omega⟩
    have hkl : k < l.length := by omega
    obtain ⟨hf0, hf1, hf2, hf3, hf4, _⟩ := hF k hkl
    have HF := Lib.hid hF
    obtain ⟨b, off, A, C, rfl, hbw, c0, c1, c2, hN⟩ := (HB.out.later Hb1.out).at (k := k) hkl
    have Hok := Lib.hid hok
    clear hN c0 c2 hok hF
    obtain ⟨ro, Hro⟩ : ∃ z, Hid (at_ l k = z) := ⟨_, rfl⟩
    rw [Hro.out] at c1 hf0 hf1 hf2 hf3 hf4
    obtain ⟨z, Hz⟩ : ∃ z, Hid (rightsV ⟨n, q, r, p, kk, cc⟩ l k = z) := ⟨_, rfl⟩
    have HP : Hid (res = if amount ≤ z then (if ro.use + amount ≤ 1099511627776 then (l.set k ⟨ro.inc, ro.use + amount, ro.out⟩, 0) else ([], 6)) else ([], 7)) := by
      rw [← Hro.out, ← Hz.out]
      exact Hres.out.symm.trans (if_pos He.out)
    have k1 : (k : Int) < (m : Int) := by have := Hm.out; omega
    have k0 : (0 : Int) ≤ (k : Int) := by omega
    obtain ⟨x, Hx⟩ : ∃ z, Hid (ro.use = z) := ⟨_, rfl⟩
    rw [Hx.out] at c1 hf3 hf4 HP
    go_wp2_with fail
    refine (refof_calls ⟨n, q, r, p, kk, cc⟩ (some ⟨b, off, none⟩) m d l k Hm.out (by have := Hm.out; omega) (by omega) HF.out _ (HB.out.later Hb1.out)).mono ?_
    rintro e w5 ⟨rfl, hb5⟩
    rw [Hz.out]
    have Hb5 := Lib.hid (held_next Hb1.out hb5)
    have f1 := cell_later hb5 c1
    clear hb5 c1 d0 d1 d2 d3 d4 d5
    by_cases hgt : amount > z
    · obtain rfl : res = ([], 7) := HP.out.trans (if_neg (by omega))
      go_wp2_with fail
      go_ret2
      exact ⟨none, 0, by rfl, books_nil _ _ _ (fun _ => rfl), Hb5.out⟩
    by_cases hgt2 : x + amount > 1099511627776
    · obtain rfl : res = ([], 6) := HP.out.trans ((if_pos (by omega)).trans (if_neg (by omega)))
      go_wp2_with fail
      go_ret2
      exact ⟨none, 0, by rfl, books_nil _ _ _ (fun _ => rfl), Hb5.out⟩
    · obtain rfl : res = (l.set k ⟨ro.inc, x + amount, ro.out⟩, 0) := HP.out.trans ((if_pos (by omega)).trans (if_pos (by omega)))
      go_wp2_with fail
      refine (refcopy_calls (some ⟨b, off, none⟩) m d l Hm.out (by have := Hm.out; omega) (fun q hq => by have := (HF.out q hq).1; omega) _ (HB.out.later Hb5.out)).mono ?_
      rintro e w2 ⟨A2, C2, rfl, hO, hb⟩
      have Hb2 := Lib.hid (held_next Hb5.out hb)
      have hsz := Hb5.out.size
      obtain ⟨g, hG⟩ := hO
      obtain ⟨bb, cap, hv, hbb, hblt, hfz, hcs, hG2⟩ := ownG_set (r := ⟨ro.inc, x + amount, ro.out⟩) (j := 1) hG hkl (by decide) (x + amount) (by rw [Hro.out]) (by rw [Hro.out]; rfl) rfl
      simp only [Value.slice.injEq] at hv
      obtain ⟨rfl, _, rfl⟩ := hv
      have e0 := hcs k 1 hkl (by decide)
      rw [show rowCell l g k 1 = .int .i64 x by unfold rowCell; rw [if_neg (by decide), if_pos rfl, Hro.out, Hx.out]] at e0
      have y0 := hfz (k * 3 + 1)
      obtain ⟨A3, C3, hv3, hBk⟩ := OwnBooks.books ⟨g, hG2⟩ (by rw [List.length_set]; omega) (fun q hq => by
        rw [List.length_set] at hq
        rw [at_set hkl]
        by_cases hqk : q = k
        · rw [if_pos hqk]; show ro.out.length ≤ _; omega
        · rw [if_neg hqk]; have := (HF.out q hq).1; omega)
      have Hv3 := Lib.hid hv3
      have HBk := Lib.hid hBk
      have HbE : Hid (Below w.heap.size w (w2.setCell ⟨bb, k * 3 + 1, none⟩ (.int .i64 (x + amount)))) := Hb2.out.setCell (p := ⟨bb, k * 3 + 1, none⟩) (by show w.heap.size ≤ bb; omega) _
      have k2 : (k : Int) < (l.length : Int) := by omega
      clear hb hG hcs hfz hG2 hv3 hBk f1 hlen
      go_wp2_with fail
      go_ret2
      exact ⟨A3, C3, by rw [← Hv3.out]; rfl, HBk.out, HbE.out⟩
  · obtain rfl : res = ([], 1) := Hres.out.symm.trans (by unfold takeR; rw [He.out]; exact if_neg (by decide))
    go_wp2_with fail
    go_ret2
    exact ⟨none, 0, by rfl, books_nil _ _ _ (fun _ => rfl), Hb1.out⟩
  · obtain rfl : res = ([], 2) := Hres.out.symm.trans (by unfold takeR; rw [He.out]; exact if_neg (by decide))
    go_wp2_with fail
    go_ret2
    exact ⟨none, 0, by rfl, books_nil _ _ _ (fun _ => rfl), Hb1.out⟩
end Go.Proofs.Ytlhfggnnikmikaa
