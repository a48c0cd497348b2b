/- Put, Take and Move, package rights. No law is proved here. -/
import Derived.Test.YtlhfggnnikmikaaRightsRight
import Derived.Test.YtlhfggnnikmikaaRightsCopied
import Derived.Test.YtlhfggnnikmikaaRefRightsMove
import Derived.BigQuiet
import Derived.Test.YtlhfggnnikmikaaGoto
namespace Go.Proofs.Ytlhfggnnikmikaa
open Go.RowKit

theorem rPut_one {c : Cf} {l : List Rw} {who amount : Int} (h : ¬ (rightOk c l ∧ 0 ≤ who ∧ who < c.n)) : putR c l who amount = ([], 1) := by
  unfold putR; rw [askedV_no h]; exact if_neg (by decide)
theorem askedV_two {c : Cf} {l : List Rw} {who amount : Int} (h : rightOk c l ∧ 0 ≤ who ∧ who < c.n) (hw : ¬ (1 ≤ amount ∧ amount ≤ 1099511627776)) : askedV c l who amount = 2 := by
  unfold askedV; rw [if_pos h, if_neg hw]
theorem askedV_none {c : Cf} {l : List Rw} {who amount : Int} (h : rightOk c l ∧ 0 ≤ who ∧ who < c.n) (hw : 1 ≤ amount ∧ amount ≤ 1099511627776) : askedV c l who amount = 0 := by
  unfold askedV; rw [if_pos h, if_pos hw]
theorem rPut_two {c : Cf} {l : List Rw} {who amount : Int} (h : rightOk c l ∧ 0 ≤ who ∧ who < c.n) (hw : ¬ (1 ≤ amount ∧ amount ≤ 1099511627776)) : putR c l who amount = ([], 2) := by
  unfold putR; rw [askedV_two h hw]; exact if_neg (by decide)
theorem rPut_three {c : Cf} {l : List Rw} {who amount : Int} (h : rightOk c l ∧ 0 ≤ who ∧ who < c.n) (hw : 1 ≤ amount ∧ amount ≤ 1099511627776) :
    putR c l who amount = if amount ≤ c.c - (at_ l who.toNat).inc then (l.set who.toNat ⟨(at_ l who.toNat).inc + amount, (at_ l who.toNat).use, (at_ l who.toNat).out⟩, 0) else ([], 4) := by
  unfold putR; rw [if_pos (askedV_none h hw)]

set_option maxRecDepth 100000 in
set_option maxHeartbeats 8000000 in
theorem rPut_calls (c : Cf) (a : Option Addr) (m d : Nat) (l : List Rw) (who amount : Int) (hm : m = l.length) (w : World) (hB : Books w (.slice a m d) l) :
    Calls Try.prog 27 #[cfV c, .slice a m d, .int .i64 who, .int .i64 amount] w (JoinedB w (putR c l who amount)) := by
  have HW := Lib.hid (Whole.made w 23 (cfCells c))
  have Hb0 := Lib.hid (below_box w (.cells (cfCells c) 23))
  have HB := Lib.hid hB; clear hB
  have Hm := Lib.hid hm; clear hm
  obtain ⟨n, q, r, p, kk, cc⟩ := c
  obtain ⟨res, Hres⟩ : ∃ z, Hid (putR ⟨n, q, r, p, kk, cc⟩ l who amount = z) := ⟨_, rfl⟩
  rw [Hres.out]
  obtain ⟨ok, Hok⟩ : ∃ z, Hid (rightB ⟨n, q, r, p, kk, cc⟩ l = z) := ⟨_, rfl⟩
  go_enter Try.func27, Try.ntmps27
  go_wp2_with fail
  refine wp_scope_ahead 0 rfl ?_
  intro J HJ
  go_wp2_with fail
  refine (rRight_calls ⟨n, q, r, p, kk, cc⟩ a m d l Hm.out _ (HB.out.later Hb0.out)).mono ?_
  rintro e w1 ⟨rfl, hb⟩
  rw [Hok.out]
  have Hb1 := Lib.hid (held_next Hb0.out hb)
  have HW1 := Lib.hid (HW.out.later hb HW.out.lt)
  clear hb
  obtain ⟨d0, d1, d2, d3, d4, d5⟩ := config_cells HW1.out
  simp only at d0 d1 d2 d3 d4 d5
  cases ok with
  | false =>
    obtain rfl : res = ([], 1) := Hres.out.symm.trans (rPut_one (fun h => by
      have := decide_eq_true h.1
      rw [show decide (rightOk ⟨n, q, r, p, kk, cc⟩ l) = false from Hok.out] at this
      cases this))
    go_wp2_with fail
    go_step3
    refine And.intro rfl (HJ.out _ _ ?_)
    go_wp2_with fail
    rw [jump_ret]
    go_ret2
    exact ⟨none, 0, by rfl, books_nil _ _ _ (fun _ => rfl), Hb1.out⟩
  | true =>
  have hok := rightB_ok Hok.out
  have HR := Lib.hid hok; clear hok
  go_wp2_with fail
  refine (among_calls ⟨n, q, r, p, kk, cc⟩ who _).mono ?_
  rintro e w2 ⟨rfl, hb⟩
  have Hb2 := Lib.hid (held_next Hb1.out hb)
  have HW2 := Lib.hid (HW1.out.later hb HW1.out.lt)
  clear hb d0 d1 d2 d3 d4 d5
  obtain ⟨d0, d1, d2, d3, d4, d5⟩ := config_cells HW2.out
  simp only at d0 d1 d2 d3 d4 d5
  by_cases ha2 : 0 ≤ who ∧ who < n
  rotate_left 1
  · rw [amongB_no ha2]
    obtain rfl : res = ([], 1) := Hres.out.symm.trans (rPut_one (fun h => ha2 h.2))
    go_wp2_with fail
    go_step3
    refine And.intro rfl (HJ.out _ _ ?_)
    go_wp2_with fail
    rw [jump_ret]
    go_ret2
    exact ⟨none, 0, by rfl, books_nil _ _ _ (fun _ => rfl), Hb2.out⟩
  rw [amongB_yes ha2]
  go_wp2_with fail
  refine (within_int64 amount 1 1099511627776 _).mono ?_
  rintro e w' ⟨rfl, rfl⟩
  by_cases hw : 1 ≤ amount ∧ amount ≤ 1099511627776
  rotate_left 1
  · rw [withinB_no hw]
    obtain rfl : res = ([], 2) := Hres.out.symm.trans (rPut_two ⟨HR.out, ha2.1, ha2.2⟩ hw)
    go_wp2_with fail
    go_step3
    refine And.intro rfl (HJ.out _ _ ?_)
    go_wp2_with fail
    rw [jump_ret]
    go_ret2
    exact ⟨none, 0, by rfl, books_nil _ _ _ (fun _ => rfl), Hb2.out⟩
  rw [withinB_yes hw]
  have HX := Lib.hid (Hres.out.symm.trans (rPut_three ⟨HR.out, ha2.1, ha2.2⟩ hw))
  obtain ⟨hw0, hw1⟩ := hw
  obtain ⟨h0, h1⟩ := ha2
  have hmost := cf_most HR.out.1
  simp only at hmost
  obtain ⟨hm0, hm1⟩ := hmost
  have h16 := HR.out.len
  have hlen := HR.out.2.1
  simp only at hlen
  have HF := Lib.hid HR.out.fits
  obtain ⟨k, rfl⟩ : ∃ k : Nat, who = (k : Int) := ⟨who.toNat, by omega⟩
  have hkl : k < l.length := by omega
  have hkm : k < m := by have := Hm.out; omega
  have h16' : m ≤ 16 := by have := Hm.out; omega
  obtain ⟨ro, Hro⟩ : ∃ z, Hid (at_ l k = z) := ⟨_, rfl⟩
  have hff := HF.out k hkl
  rw [Hro.out, ← Hm.out] at hff
  have HN1 := Lib.hid (HB.out.later Hb2.out)
  simp only [Int.toNat_natCast] at HX
  rw [Hro.out] at HX
  obtain ⟨b, off, A, C, rfl, hbw, c0, c1, c2, hN⟩ := HN1.out.at (k := k) hkl
  clear hN c1 c2
  rw [Hro.out] at c0
  obtain ⟨x, Hx⟩ : ∃ z, Hid (ro.inc = z) := ⟨_, rfl⟩
  rw [Hx.out] at c0 HX hff
  obtain ⟨hf0, hf1, hf2, hf3, hf4, _⟩ := hff
  have k1 : (k : Int) < (m : Int) := by omega
  have k0 : (0 : Int) ≤ (k : Int) := by omega
  by_cases hgt : cc < x + amount
  · obtain rfl : res = ([], 4) := HX.out.trans (if_neg (by show ¬ (amount ≤ cc - x); omega))
    go_wp2_with fail
    go_quiet (fail)
    go_wp2_with fail
    go_step3
    refine And.intro rfl (HJ.out _ _ ?_)
    go_wp2_with fail
    rw [jump_ret]
    go_ret2
    exact ⟨none, 0, by rfl, books_nil _ _ _ (fun _ => rfl), below_drewN Hb2.out _⟩
  · obtain rfl : res = (l.set k ⟨x + amount, ro.use, ro.out⟩, 0) := HX.out.trans (if_pos (by show amount ≤ cc - x; omega))
    go_wp2_with fail
    go_quiet (fail)
    have Hbd := Lib.hid (below_drewN Hb2.out nq)
    go_wp2_with fail
    refine (copied_calls (some ⟨b, off, none⟩) m d l Hm.out (by omega) (fun q hq => by have := (HF.out q hq).1; have := Hm.out; omega) _ (HB.out.later Hbd.out)).mono ?_
    rintro e w5 ⟨A2, C2, rfl, hO, hb⟩
    have Hb5 := Lib.hid (held_next Hbd.out hb)
    have hsz := Hbd.out.size
    obtain ⟨g, hG⟩ := hO
    obtain ⟨bb, cap, hv, hbb, hblt, hfz, hcs, hG2⟩ := ownG_set (r := ⟨x + amount, ro.use, ro.out⟩) (j := 0) hG hkl (by decide) (x + amount) (by rw [Hro.out]) rfl (by rw [Hro.out]; rfl)
    simp only [Value.slice.injEq] at hv
    obtain ⟨rfl, _, rfl⟩ := hv
    have e0 := hcs k 0 hkl (by decide)
    rw [show rowCell l g k 0 = .int .i64 x by unfold rowCell; rw [if_pos rfl, Hro.out, Hx.out], Nat.add_zero] at e0
    rw [Nat.add_zero] at hG2
    have y0 := hfz (k * 3)
    obtain ⟨A3, C3, hv3, hBk⟩ := OwnBooks.books ⟨g, hG2⟩ (by rw [List.length_set]; omega) (fun q hq => by
      rw [List.length_set] at hq
      rw [at_set hkl]
      by_cases hqk : q = k
      · rw [if_pos hqk]; show ro.out.length ≤ _; omega
      · rw [if_neg hqk]; have := (HF.out q hq).1; omega)
    have Hv3 := Lib.hid hv3
    have HBk := Lib.hid hBk
    have HbE : Hid (Below w.heap.size w (w5.setCell ⟨bb, k * 3, none⟩ (.int .i64 (x + amount)))) := Hb5.out.setCell (p := ⟨bb, k * 3, none⟩) (by show w.heap.size ≤ bb; omega) _
    have k2 : (k : Int) < (l.length : Int) := by omega
    clear hb hG hcs hfz hG2 hv3 hBk c0 d0 d1 d2 d3 d4 d5 hlen
    go_wp2_with fail
    rw [jump_ret]
    go_ret2
    exact ⟨A3, C3, by rw [← Hv3.out]; rfl, HBk.out, HbE.out⟩

theorem rTake_one {c : Cf} {l : List Rw} {who amount : Int} (h : ¬ (rightOk c l ∧ 0 ≤ who ∧ who < c.n)) : takeR c l who amount = ([], 1) := by
  unfold takeR; rw [askedV_no h]; exact if_neg (by decide)
theorem rTake_two {c : Cf} {l : List Rw} {who amount : Int} (h : rightOk c l ∧ 0 ≤ who ∧ who < c.n) (hw : ¬ (1 ≤ amount ∧ amount ≤ 1099511627776)) : takeR c l who amount = ([], 2) := by
  unfold takeR; rw [askedV_two h hw]; exact if_neg (by decide)
theorem rTake_three {c : Cf} {l : List Rw} {who amount : Int} (h : rightOk c l ∧ 0 ≤ who ∧ who < c.n) (hw : 1 ≤ amount ∧ amount ≤ 1099511627776) :
    takeR c l who amount = if amount ≤ rightsV c l who.toNat then (if (at_ l who.toNat).use + amount ≤ 1099511627776 then (l.set who.toNat ⟨(at_ l who.toNat).inc, (at_ l who.toNat).use + amount, (at_ l who.toNat).out⟩, 0) else ([], 6)) else ([], 7) := by
  unfold takeR; rw [if_pos (askedV_none h hw)]

set_option maxRecDepth 100000 in
set_option maxHeartbeats 8000000 in
theorem rTake_calls (c : Cf) (a : Option Addr) (m d : Nat) (l : List Rw) (who amount : Int) (hm : m = l.length) (w : World) (hB : Books w (.slice a m d) l) :
    Calls Try.prog 28 #[cfV c, .slice a m d, .int .i64 who, .int .i64 amount] w (JoinedB w (takeR c l who amount)) := by
  have HW := Lib.hid (Whole.made w 23 (cfCells c))
  have Hb0 := Lib.hid (below_box w (.cells (cfCells c) 23))
  have HB := Lib.hid hB; clear hB
  have Hm := Lib.hid hm; clear hm
  obtain ⟨n, q, r, p, kk, cc⟩ := c
  obtain ⟨res, Hres⟩ : ∃ z, Hid (takeR ⟨n, q, r, p, kk, cc⟩ l who amount = z) := ⟨_, rfl⟩
  rw [Hres.out]
  obtain ⟨ok, Hok⟩ : ∃ z, Hid (rightB ⟨n, q, r, p, kk, cc⟩ l = z) := ⟨_, rfl⟩
  go_enter Try.func28, Try.ntmps28
  go_wp2_with fail
  refine wp_scope_ahead 0 rfl ?_
  intro J HJ
  go_wp2_with fail
  refine (rRight_calls ⟨n, q, r, p, kk, cc⟩ a m d l Hm.out _ (HB.out.later Hb0.out)).mono ?_
  rintro e w1 ⟨rfl, hb⟩
  rw [Hok.out]
  have Hb1 := Lib.hid (held_next Hb0.out hb)
  have HW1 := Lib.hid (HW.out.later hb HW.out.lt)
  clear hb
  obtain ⟨d0, d1, d2, d3, d4, d5⟩ := config_cells HW1.out
  simp only at d0 d1 d2 d3 d4 d5
  cases ok with
  | false =>
    obtain rfl : res = ([], 1) := Hres.out.symm.trans (rTake_one (fun h => by
      have := decide_eq_true h.1
      rw [show decide (rightOk ⟨n, q, r, p, kk, cc⟩ l) = false from Hok.out] at this
      cases this))
    go_wp2_with fail
    go_step3
    refine And.intro rfl (HJ.out _ _ ?_)
    go_wp2_with fail
    rw [jump_ret]
    go_ret2
    exact ⟨none, 0, by rfl, books_nil _ _ _ (fun _ => rfl), Hb1.out⟩
  | true =>
  have hok := rightB_ok Hok.out
  have HR := Lib.hid hok; clear hok
  go_wp2_with fail
  refine (among_calls ⟨n, q, r, p, kk, cc⟩ who _).mono ?_
  rintro e w2 ⟨rfl, hb⟩
  have Hb2 := Lib.hid (held_next Hb1.out hb)
  have HW2 := Lib.hid (HW1.out.later hb HW1.out.lt)
  clear hb d0 d1 d2 d3 d4 d5
  obtain ⟨d0, d1, d2, d3, d4, d5⟩ := config_cells HW2.out
  simp only at d0 d1 d2 d3 d4 d5
  by_cases ha2 : 0 ≤ who ∧ who < n
  rotate_left 1
  · rw [amongB_no ha2]
    obtain rfl : res = ([], 1) := Hres.out.symm.trans (rTake_one (fun h => ha2 h.2))
    go_wp2_with fail
    go_step3
    refine And.intro rfl (HJ.out _ _ ?_)
    go_wp2_with fail
    rw [jump_ret]
    go_ret2
    exact ⟨none, 0, by rfl, books_nil _ _ _ (fun _ => rfl), Hb2.out⟩
  rw [amongB_yes ha2]
  go_wp2_with fail
  refine (within_int64 amount 1 1099511627776 _).mono ?_
  rintro e w' ⟨rfl, rfl⟩
  by_cases hw : 1 ≤ amount ∧ amount ≤ 1099511627776
  rotate_left 1
  · rw [withinB_no hw]
    obtain rfl : res = ([], 2) := Hres.out.symm.trans (rTake_two ⟨HR.out, ha2.1, ha2.2⟩ hw)
    go_wp2_with fail
    go_step3
    refine And.intro rfl (HJ.out _ _ ?_)
    go_wp2_with fail
    rw [jump_ret]
    go_ret2
    exact ⟨none, 0, by rfl, books_nil _ _ _ (fun _ => rfl), Hb2.out⟩
  rw [withinB_yes hw]
  have HX := Lib.hid (Hres.out.symm.trans (rTake_three ⟨HR.out, ha2.1, ha2.2⟩ hw))
  obtain ⟨hw0, hw1⟩ := hw
  obtain ⟨h0, h1⟩ := ha2
  have hmost := cf_most HR.out.1
  simp only at hmost
  obtain ⟨hm0, hm1⟩ := hmost
  have h16 := HR.out.len
  have hlen := HR.out.2.1
  simp only at hlen
  have HF := Lib.hid HR.out.fits
  obtain ⟨k, rfl⟩ : ∃ k : Nat, who = (k : Int) := ⟨who.toNat, by omega⟩
  have hkl : k < l.length := by omega
  have hkm : k < m := by have := Hm.out; omega
  have h16' : m ≤ 16 := by have := Hm.out; omega
  obtain ⟨ro, Hro⟩ : ∃ z, Hid (at_ l k = z) := ⟨_, rfl⟩
  have hff := HF.out k hkl
  rw [Hro.out, ← Hm.out] at hff
  have HN1 := Lib.hid (HB.out.later Hb2.out)
  obtain ⟨z, Hz⟩ : ∃ z, Hid (rightsV ⟨n, q, r, p, kk, cc⟩ l k = z) := ⟨_, rfl⟩
  go_wp2_with fail
  refine (rights_calls ⟨n, q, r, p, kk, cc⟩ a m d _).mono ?_
  rintro e w3 ⟨cv, rfl, ⟨bl, ba, bc, bs, rfl, q1, q2, q3, q4⟩, hb⟩
  have Hb3 := Lib.hid (held_next Hb2.out hb)
  have Q1 := Lib.hid q1; clear q1
  have Q2 := Lib.hid q2; clear q2
  have Q3 := Lib.hid q3; clear q3
  have Q4 := Lib.hid q4; clear q4
  clear hb d0 d1 d2 d3 d4 d5
  go_wp2_with fail
  refine (clos_calls ⟨n, q, r, p, kk, cc⟩ a m d l k Hm.out h16' hkm HF.out bl ba bc bs _ (HB.out.later Hb3.out) Q1.out Q2.out Q3.out Q4.out).mono ?_
  rintro e w4 ⟨rfl, hb⟩
  rw [Hz.out]
  have Hb4 := Lib.hid (held_next Hb3.out hb)
  clear hb
  simp only [Int.toNat_natCast] at HX
  rw [Hro.out, Hz.out] at HX
  obtain ⟨b, off, A, C, rfl, hbw, c0, c1, c2, hN⟩ := (HB.out.later Hb4.out).at (k := k) hkl
  clear hN c0 c2
  rw [Hro.out] at c1
  obtain ⟨x, Hx⟩ : ∃ z, Hid (ro.use = z) := ⟨_, rfl⟩
  rw [Hx.out] at c1 HX hff
  obtain ⟨hf0, hf1, hf2, hf3, hf4, _⟩ := hff
  have k1 : (k : Int) < (m : Int) := by omega
  have k0 : (0 : Int) ≤ (k : Int) := by omega
  by_cases hgt : amount > z
  · obtain rfl : res = ([], 7) := HX.out.trans (if_neg (by omega))
    go_wp2_with fail
    go_step3
    refine And.intro rfl (HJ.out _ _ ?_)
    go_wp2_with fail
    rw [jump_ret]
    go_ret2
    exact ⟨none, 0, by rfl, books_nil _ _ _ (fun _ => rfl), Hb4.out⟩
  by_cases hgt2 : x + amount > 1099511627776
  · obtain rfl : res = ([], 6) := HX.out.trans ((if_pos (by omega)).trans (if_neg (by omega)))
    go_wp2_with fail
    go_step3
    refine And.intro rfl (HJ.out _ _ ?_)
    go_wp2_with fail
    rw [jump_ret]
    go_ret2
    exact ⟨none, 0, by rfl, books_nil _ _ _ (fun _ => rfl), Hb4.out⟩
  · obtain rfl : res = (l.set k ⟨ro.inc, x + amount, ro.out⟩, 0) := HX.out.trans ((if_pos (by omega)).trans (if_pos (by omega)))
    go_wp2_with fail
    refine (copied_calls (some ⟨b, off, none⟩) m d l Hm.out (by omega) (fun q hq => by have := (HF.out q hq).1; have := Hm.out; omega) _ (HB.out.later Hb4.out)).mono ?_
    rintro e w5 ⟨A2, C2, rfl, hO, hb⟩
    have Hb5 := Lib.hid (held_next Hb4.out hb)
    have hsz := Hb4.out.size
    obtain ⟨g, hG⟩ := hO
    obtain ⟨bb, cap, hv, hbb, hblt, hfz, hcs, hG2⟩ := ownG_set (r := ⟨ro.inc, x + amount, ro.out⟩) (j := 1) hG hkl (by decide) (x + amount) (by rw [Hro.out]) (by rw [Hro.out]; rfl) rfl
    simp only [Value.slice.injEq] at hv
    obtain ⟨rfl, _, rfl⟩ := hv
    have e0 := hcs k 1 hkl (by decide)
    rw [show rowCell l g k 1 = .int .i64 x by unfold rowCell; rw [if_neg (by decide), if_pos rfl, Hro.out, Hx.out]] at e0
    have y0 := hfz (k * 3 + 1)
    obtain ⟨A3, C3, hv3, hBk⟩ := OwnBooks.books ⟨g, hG2⟩ (by rw [List.length_set]; omega) (fun q hq => by
      rw [List.length_set] at hq
      rw [at_set hkl]
      by_cases hqk : q = k
      · rw [if_pos hqk]; show ro.out.length ≤ _; omega
      · rw [if_neg hqk]; have := (HF.out q hq).1; omega)
    have Hv3 := Lib.hid hv3
    have HBk := Lib.hid hBk
    have HbE : Hid (Below w.heap.size w (w5.setCell ⟨bb, k * 3 + 1, none⟩ (.int .i64 (x + amount)))) := Hb5.out.setCell (p := ⟨bb, k * 3 + 1, none⟩) (by show w.heap.size ≤ bb; omega) _
    have k2 : (k : Int) < (l.length : Int) := by omega
    clear hb hG hcs hfz hG2 hv3 hBk c1 hlen
    go_wp2_with fail
    rw [jump_ret]
    go_ret2
    exact ⟨A3, C3, by rw [← Hv3.out]; rfl, HBk.out, HbE.out⟩

theorem rMove_one {c : Cf} {l : List Rw} {who tg amount : Int} (h : ¬ (rightOk c l ∧ (0 ≤ who ∧ who < c.n) ∧ (0 ≤ tg ∧ tg < c.n) ∧ tg ≠ who)) : moveR c l who tg amount = ([], 1) := by
  unfold moveR
  refine if_neg fun h' => ?_
  by_cases h2 : rightOk c l ∧ 0 ≤ who ∧ who < c.n
  · exact h ⟨h2.1, h2.2, ⟨h'.2.1, h'.2.2.1⟩, h'.2.2.2⟩
  · exact h'.1 (askedV_no h2)
theorem rMove_two {c : Cf} {l : List Rw} {who tg amount : Int} (h : rightOk c l ∧ (0 ≤ who ∧ who < c.n) ∧ (0 ≤ tg ∧ tg < c.n) ∧ tg ≠ who) (hw : ¬ (1 ≤ amount ∧ amount ≤ 1099511627776)) : moveR c l who tg amount = ([], 2) := by
  have e := askedV_two ⟨h.1, h.2.1⟩ hw
  unfold moveR; rw [e, if_pos ⟨by decide, h.2.2.1.1, h.2.2.1.2, h.2.2.2⟩]; exact if_neg (by decide)
theorem rMove_three {c : Cf} {l : List Rw} {who tg amount : Int} (h : rightOk c l ∧ (0 ≤ who ∧ who < c.n) ∧ (0 ≤ tg ∧ tg < c.n) ∧ tg ≠ who) (hw : 1 ≤ amount ∧ amount ≤ 1099511627776) :
    moveR c l who tg amount = if amount ≤ rightsV c l who.toNat then
        (if (at_ l who.toNat).out[tg.toNat]?.getD 0 + amount ≤ 1125899906842624 then (l.set who.toNat ⟨(at_ l who.toNat).inc, (at_ l who.toNat).use, (at_ l who.toNat).out.set tg.toNat ((at_ l who.toNat).out[tg.toNat]?.getD 0 + amount)⟩, 0) else ([], 6))
        else ([], 7) := by
  have e := askedV_none ⟨h.1, h.2.1⟩ hw
  unfold moveR; rw [e, if_pos ⟨by decide, h.2.2.1.1, h.2.2.1.2, h.2.2.2⟩]; exact if_pos rfl

set_option maxRecDepth 100000 in
set_option maxHeartbeats 8000000 in
theorem rMove_calls (c : Cf) (a : Option Addr) (m d : Nat) (l : List Rw) (who tg amount : Int) (hm : m = l.length) (w : World) (hB : Books w (.slice a m d) l) :
    Calls Try.prog 29 #[cfV c, .slice a m d, .int .i64 who, .int .i64 tg, .int .i64 amount] w (JoinedB w (moveR c l who tg amount)) := by
  have HW := Lib.hid (Whole.made w 23 (cfCells c))
  have Hb0 := Lib.hid (below_box w (.cells (cfCells c) 23))
  have HB := Lib.hid hB; clear hB
  have Hm := Lib.hid hm; clear hm
  obtain ⟨n, q, r, p, kk, cc⟩ := c
  obtain ⟨res, Hres⟩ : ∃ z, Hid (moveR ⟨n, q, r, p, kk, cc⟩ l who tg amount = z) := ⟨_, rfl⟩
  rw [Hres.out]
  obtain ⟨ok, Hok⟩ : ∃ z, Hid (rightB ⟨n, q, r, p, kk, cc⟩ l = z) := ⟨_, rfl⟩
  go_enter Try.func29, Try.ntmps29
  go_wp2_with fail
  refine wp_scope_ahead 0 rfl ?_
  intro J HJ
  go_wp2_with fail
  refine (rRight_calls ⟨n, q, r, p, kk, cc⟩ a m d l Hm.out _ (HB.out.later Hb0.out)).mono ?_
  rintro e w1 ⟨rfl, hb⟩
  rw [Hok.out]
  have Hb1 := Lib.hid (held_next Hb0.out hb)
  have HW1 := Lib.hid (HW.out.later hb HW.out.lt)
  clear hb
  obtain ⟨d0, d1, d2, d3, d4, d5⟩ := config_cells HW1.out
  simp only at d0 d1 d2 d3 d4 d5
  cases ok with
  | false =>
    obtain rfl : res = ([], 1) := Hres.out.symm.trans (rMove_one (fun h => by
      have := decide_eq_true h.1
      rw [show decide (rightOk ⟨n, q, r, p, kk, cc⟩ l) = false from Hok.out] at this
      cases this))
    go_wp2_with fail
    go_step3
    refine And.intro rfl (HJ.out _ _ ?_)
    go_wp2_with fail
    rw [jump_ret]
    go_ret2
    exact ⟨none, 0, by rfl, books_nil _ _ _ (fun _ => rfl), Hb1.out⟩
  | true =>
  have hok := rightB_ok Hok.out
  have HR := Lib.hid hok; clear hok
  go_wp2_with fail
  refine (among_calls ⟨n, q, r, p, kk, cc⟩ who _).mono ?_
  rintro e w2 ⟨rfl, hb⟩
  have Hb2 := Lib.hid (held_next Hb1.out hb)
  have HW2 := Lib.hid (HW1.out.later hb HW1.out.lt)
  clear hb d0 d1 d2 d3 d4 d5
  obtain ⟨d0, d1, d2, d3, d4, d5⟩ := config_cells HW2.out
  simp only at d0 d1 d2 d3 d4 d5
  by_cases ha2 : 0 ≤ who ∧ who < n
  rotate_left 1
  · rw [amongB_no ha2]
    obtain rfl : res = ([], 1) := Hres.out.symm.trans (rMove_one (fun h => ha2 h.2.1))
    go_wp2_with fail
    go_step3
    refine And.intro rfl (HJ.out _ _ ?_)
    go_wp2_with fail
    rw [jump_ret]
    go_ret2
    exact ⟨none, 0, by rfl, books_nil _ _ _ (fun _ => rfl), Hb2.out⟩
  rw [amongB_yes ha2]
  go_wp2_with fail
  refine (among_calls ⟨n, q, r, p, kk, cc⟩ tg _).mono ?_
  rintro e w3 ⟨rfl, hb⟩
  have Hb3 := Lib.hid (held_next Hb2.out hb)
  have HW3 := Lib.hid (HW2.out.later hb HW2.out.lt)
  clear hb d0 d1 d2 d3 d4 d5
  obtain ⟨d0, d1, d2, d3, d4, d5⟩ := config_cells HW3.out
  simp only at d0 d1 d2 d3 d4 d5
  by_cases ha3 : 0 ≤ tg ∧ tg < n
  rotate_left 1
  · rw [amongB_no ha3]
    obtain rfl : res = ([], 1) := Hres.out.symm.trans (rMove_one (fun h => ha3 h.2.2.1))
    go_wp2_with fail
    go_step3
    refine And.intro rfl (HJ.out _ _ ?_)
    go_wp2_with fail
    rw [jump_ret]
    go_ret2
    exact ⟨none, 0, by rfl, books_nil _ _ _ (fun _ => rfl), Hb3.out⟩
  rw [amongB_yes ha3]
  by_cases t2 : who = tg
  · have t3 : ((who : Int) == tg) = true := beq_iff_eq.2 t2
    obtain rfl : res = ([], 1) := Hres.out.symm.trans (rMove_one (fun h => h.2.2.2 t2.symm))
    have T2 := Lib.hid t2; clear t2
    go_wp2_with fail
    go_step3
    refine And.intro rfl (HJ.out _ _ ?_)
    go_wp2_with fail
    rw [jump_ret]
    go_ret2
    exact ⟨none, 0, by rfl, books_nil _ _ _ (fun _ => rfl), Hb3.out⟩
  have t3 : ((who : Int) == tg) = false := beq_eq_false_iff_ne.2 t2
  have t2' := Ne.symm t2
  go_wp2_with fail
  refine (within_int64 amount 1 1099511627776 _).mono ?_
  rintro e w' ⟨rfl, rfl⟩
  by_cases hw : 1 ≤ amount ∧ amount ≤ 1099511627776
  rotate_left 1
  · rw [withinB_no hw]
    obtain rfl : res = ([], 2) := Hres.out.symm.trans (rMove_two ⟨HR.out, ha2, ha3, t2'⟩ hw)
    go_wp2_with fail
    go_step3
    refine And.intro rfl (HJ.out _ _ ?_)
    go_wp2_with fail
    rw [jump_ret]
    go_ret2
    exact ⟨none, 0, by rfl, books_nil _ _ _ (fun _ => rfl), Hb3.out⟩
  rw [withinB_yes hw]
  have HX := Lib.hid (Hres.out.symm.trans (rMove_three ⟨HR.out, ha2, ha3, t2'⟩ hw))
  obtain ⟨hw0, hw1⟩ := hw
  obtain ⟨h0, h1⟩ := ha2
  obtain ⟨h2, h3⟩ := ha3
  have hmost := cf_most HR.out.1
  simp only at hmost
  obtain ⟨hm0, hm1⟩ := hmost
  have h16 := HR.out.len
  have hlen := HR.out.2.1
  simp only at hlen
  have HF := Lib.hid HR.out.fits
  obtain ⟨k, rfl⟩ : ∃ k : Nat, who = (k : Int) := ⟨who.toNat, by omega⟩
  obtain ⟨j, rfl⟩ : ∃ j : Nat, tg = (j : Int) := ⟨tg.toNat, by omega⟩
  have hkl : k < l.length := by omega
  have hkm : k < m := by have := Hm.out; omega
  have h16' : m ≤ 16 := by have := Hm.out; omega
  have hjl : j < l.length := by omega
  have hjm : j < m := by have := Hm.out; omega
  obtain ⟨ro, Hro⟩ : ∃ z, Hid (at_ l k = z) := ⟨_, rfl⟩
  have hff := HF.out k hkl
  rw [Hro.out, ← Hm.out] at hff
  have HN1 := Lib.hid (HB.out.later Hb3.out)
  obtain ⟨z, Hz⟩ : ∃ z, Hid (rightsV ⟨n, q, r, p, kk, cc⟩ l k = z) := ⟨_, rfl⟩
  go_wp2_with fail
  refine (rights_calls ⟨n, q, r, p, kk, cc⟩ a m d _).mono ?_
  rintro e w4 ⟨cv, rfl, ⟨bl, ba, bc, bs, rfl, q1, q2, q3, q4⟩, hb⟩
  have Hb4 := Lib.hid (held_next Hb3.out hb)
  have Q1 := Lib.hid q1; clear q1
  have Q2 := Lib.hid q2; clear q2
  have Q3 := Lib.hid q3; clear q3
  have Q4 := Lib.hid q4; clear q4
  clear hb d0 d1 d2 d3 d4 d5
  go_wp2_with fail
  refine (clos_calls ⟨n, q, r, p, kk, cc⟩ a m d l k Hm.out h16' hkm HF.out bl ba bc bs _ (HB.out.later Hb4.out) Q1.out Q2.out Q3.out Q4.out).mono ?_
  rintro e w5 ⟨rfl, hb⟩
  rw [Hz.out]
  have Hb5 := Lib.hid (held_next Hb4.out hb)
  clear hb
  simp only [Int.toNat_natCast] at HX
  rw [Hro.out, Hz.out] at HX
  obtain ⟨b, off, A, C, rfl, hbw, c0, c1, c2, hN⟩ := (HB.out.later Hb5.out).at (k := k) hkl
  obtain ⟨b2, o2, rfl, hbw2, g0⟩ := hN.at (i := j) (by rw [Hro.out]; omega)
  clear hN c0 c1
  rw [Hro.out] at c2 g0
  obtain ⟨x, Hx⟩ : ∃ z, Hid (ro.out[j]?.getD 0 = z) := ⟨_, rfl⟩
  have hfx := hff.2.2.2.2.2 j hjm
  rw [Hx.out] at g0 HX hfx
  rw [hff.1] at c2
  obtain ⟨hf0, hf1, hf2, hf3, hf4, _⟩ := hff
  obtain ⟨hfx0, hfx1⟩ := hfx
  have k1 : (k : Int) < (m : Int) := by omega
  have k0 : (0 : Int) ≤ (k : Int) := by omega
  have j1 : (j : Int) < (m : Int) := by omega
  have j0 : (0 : Int) ≤ (j : Int) := by omega
  by_cases hgt : amount > z
  · obtain rfl : res = ([], 7) := HX.out.trans (if_neg (by omega))
    go_wp2_with fail
    go_step3
    refine And.intro rfl (HJ.out _ _ ?_)
    go_wp2_with fail
    rw [jump_ret]
    go_ret2
    exact ⟨none, 0, by rfl, books_nil _ _ _ (fun _ => rfl), Hb5.out⟩
  by_cases hgt2 : x + amount > 1125899906842624
  · obtain rfl : res = ([], 6) := HX.out.trans ((if_pos (by omega)).trans (if_neg (by omega)))
    go_wp2_with fail
    go_step3
    refine And.intro rfl (HJ.out _ _ ?_)
    go_wp2_with fail
    rw [jump_ret]
    go_ret2
    exact ⟨none, 0, by rfl, books_nil _ _ _ (fun _ => rfl), Hb5.out⟩
  · obtain rfl : res = (l.set k ⟨ro.inc, ro.use, ro.out.set j (x + amount)⟩, 0) := HX.out.trans ((if_pos (by omega)).trans (if_pos (by omega)))
    go_wp2_with fail
    refine (copied_calls (some ⟨b, off, none⟩) m d l Hm.out (by omega) (fun q hq => by have := (HF.out q hq).1; have := Hm.out; omega) _ (HB.out.later Hb5.out)).mono ?_
    rintro e w6 ⟨A2, C2, rfl, hO, hb⟩
    have Hb6 := Lib.hid (held_next Hb5.out hb)
    have hsz := Hb5.out.size
    obtain ⟨g, hG⟩ := hO
    obtain ⟨bb, cap, b3, c3, hv, hgk, hbb, hblt, hbl2, hfz, hcs, hcell, hG2⟩ := ownG_out (j := j) hG hkl (by rw [Hro.out]; omega) (x + amount)
    simp only [Value.slice.injEq] at hv
    obtain ⟨rfl, _, rfl⟩ := hv
    rw [Hro.out] at hgk hcell hG2
    rw [Hx.out] at hcell
    rw [hf0] at hgk
    have e2 := hcs k 2 hkl (by decide)
    rw [show rowCell l g k 2 = .slice (some ⟨b3, 0, none⟩) m c3 from hgk] at e2
    have y0 := hfz j
    obtain ⟨A3, C3, hv3, hBk⟩ := OwnBooks.books ⟨g, hG2⟩ (by rw [List.length_set]; omega) (fun q hq => by
      rw [List.length_set] at hq
      rw [at_set hkl]
      by_cases hqk : q = k
      · rw [if_pos hqk]; show (ro.out.set j (x + amount)).length ≤ _; rw [List.length_set]; omega
      · rw [if_neg hqk]; have := (HF.out q hq).1; omega)
    have Hv3 := Lib.hid hv3
    have HBk := Lib.hid hBk
    have HbE : Hid (Below w.heap.size w (w6.setCell ⟨b3, j, none⟩ (.int .i64 (x + amount)))) := Hb6.out.setCell (p := ⟨b3, j, none⟩) (by show w.heap.size ≤ b3; omega) _
    have k2 : (k : Int) < (l.length : Int) := by omega
    clear hb hG hcs hfz hG2 hv3 hBk c2 g0 hlen hgk
    go_wp2_with fail
    rw [jump_ret]
    go_ret2
    exact ⟨A3, C3, by rw [← Hv3.out]; rfl, HBk.out, HbE.out⟩

end Go.Proofs.Ytlhfggnnikmikaa
