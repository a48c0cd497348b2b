/- Package share, walked: what is given, unasked and asked. No law is proved here. -/
import Derived.Test.YtkkhecdmjcffjaaShareLeast
import Derived.Test.YtkkhecdmjcffjaaRefShare
import Derived.Deep.RegionHeld3
import Derived.Lib.MinMax
namespace Go.Proofs.Ytkkhecdmjcffjaa
open Go.RowKit

set_option maxRecDepth 100000 in
set_option maxHeartbeats 8000000 in
theorem sGive_calls (c : Cf) (a : Option Addr) (m cp : Nat) (l : List Rw) (who keep : Int) (hm : m = l.length) (hkeep : keep ≤ 9223372036854775807) (w : World) (hB : Books w (.slice a m cp) l) :
    Calls Try.prog 8 #[cfV c, .slice a m cp, .int .i64 who, .int .i64 keep] w (Two w (giveV c l who keep)) := by
  have hmf : ∀ (fn : Fn) (first cap : Array Value) (w : World), (Instr.makeFunc fn first cap).run Try.prog w = .ok (.func fn first cap) w := fun _ _ _ _ => rfl
  have HW := Lib.hid (Whole.made (w.alloc (.cells (cfCells c) 23)) 39 (shCells c (.slice a m cp)))
  have Hb0 := Lib.hid (below_two w (.cells (cfCells c) 23) (.cells (shCells c (.slice a m cp)) 39))
  have HB := Lib.hid hB; clear hB
  have Hm := Lib.hid hm; clear hm
  have hsz : (w.alloc (.cells (cfCells c) 23)).heap.size = w.heap.size + 1 := by simp
  rw [hsz] at HW
  clear hsz
  obtain ⟨n, q, r, p, kk, cc⟩ := c
  obtain ⟨res, Hres⟩ : ∃ z, Hid (giveV ⟨n, q, r, p, kk, cc⟩ l who keep = z) := ⟨_, rfl⟩
  rw [Hres.out]
  obtain ⟨ok, Hok⟩ : ∃ z, Hid (rightB ⟨n, q, r, p, kk, cc⟩ l = z) := ⟨_, rfl⟩
  obtain ⟨d0, d1, d2, d3, d4, d5, d6⟩ := sh_cells HW.out
  simp only at d0 d1 d2 d3 d4 d5 d6
  go_enter Try.func8, Try.ntmps8
  go_wp2_with fail
  refine (sRight_calls ⟨n, q, r, p, kk, cc⟩ a m cp l Hm.out _ (HB.out.later Hb0.out)).mono ?_
  rintro e w1 ⟨rfl, hb⟩
  rw [Hok.out]
  have Hb1 := Lib.hid (held_next Hb0.out hb)
  have HW1 := Lib.hid (HW.out.later hb HW.out.lt)
  clear hb d0 d1 d2 d3 d4 d5 d6
  obtain ⟨d0, d1, d2, d3, d4, d5, d6⟩ := sh_cells HW1.out
  simp only at d0 d1 d2 d3 d4 d5 d6
  cases ok with
  | false =>
    obtain rfl : res = (0, 0) := Hres.out.symm.trans (giveV_no fun h => by
      have : rightB ⟨n, q, r, p, kk, cc⟩ l = true := decide_eq_true h.1
      rw [Hok.out] at this
      cases this)
    go_wp2_with fail
    go_ret2
    exact ⟨by rfl, Hb1.out⟩
  | true =>
  have Hro := Lib.hid (rightB_ok Hok.out)
  go_wp2_with fail
  refine (sAmong_calls ⟨n, q, r, p, kk, cc⟩ _ who _).mono ?_
  rintro e w2 ⟨rfl, hb⟩
  have Hb2 := Lib.hid (held_next Hb1.out hb)
  have HW2 := Lib.hid (HW1.out.later hb HW1.out.lt)
  clear hb d0 d1 d2 d3 d4 d5 d6
  obtain ⟨d0, d1, d2, d3, d4, d5, d6⟩ := sh_cells HW2.out
  simp only at d0 d1 d2 d3 d4 d5 d6
  by_cases hw : 0 ≤ who ∧ who < n
  rotate_left 1
  · rw [amongB_no hw]
    obtain rfl : res = (0, 0) := Hres.out.symm.trans (giveV_no fun h => hw ⟨h.2.1, h.2.2.1⟩)
    go_wp2_with fail
    go_ret2
    exact ⟨by rfl, Hb2.out⟩
  rw [amongB_yes hw]
  have hn1 : 1 ≤ n := Hro.out.1.1
  have hn16 : n ≤ 16 := Hro.out.1.2.1
  obtain ⟨N, rfl⟩ : ∃ N : Nat, n = (N : Int) := ⟨n.toNat, by omega⟩
  obtain ⟨os, Hos⟩ : ∃ z, Hid (othersN who N = z) := ⟨_, rfl⟩
  obtain ⟨g, Hg⟩ : ∃ z, Hid (ofV ⟨(N : Int), q, r, p, kk, cc⟩ l = z) := ⟨_, rfl⟩
  obtain ⟨⟨t, b⟩, Htb⟩ : ∃ z, Hid (leastF g os = z) := ⟨_, rfl⟩
  have O1 : Hid (∀ w', Below w2.heap.size w2 w' → Calls Try.prog 17 #[shV ⟨(N : Int), q, r, p, kk, cc⟩ (.slice a m cp), .int .i64 who] w' (MadeI w' os)) := by
    intro w' h; have h2 := others_calls ⟨(N : Int), q, r, p, kk, cc⟩ (.slice a m cp) who (by simp only; omega) (by simp only; omega) w'; simp only [Int.toNat_natCast] at h2; rwa [Hos.out] at h2
  have O2 : Hid (∀ A C w', Below w2.heap.size w2 w' → Nums w' (.slice A os.length C) os → Calls Try.prog 16 #[.slice A os.length C, .func (Fn.func 18) #[shV ⟨(N : Int), q, r, p, kk, cc⟩ (.slice a m cp)] #[]] w' (TwoB w' (t, b))) := by
    intro A C w' h hN; have h2 := least_calls ⟨(N : Int), q, r, p, kk, cc⟩ a m cp l Hm.out A os.length C os rfl w' (HB.out.later (held_next Hb2.out h)) hN; rw [Hg.out, Htb.out] at h2; exact h2
  have KP : Hid (∀ w', Below w2.heap.size w2 w' → (fun w' => Below w2.heap.size w2 w' ∧ (w'.cell? ⟨w.heap.size + 1, 0, none⟩ = some (.int .i64 (N : Int)) ∧ w'.cell? ⟨w.heap.size + 1, 1, none⟩ = some (.int .i64 q) ∧ w'.cell? ⟨w.heap.size + 1, 2, none⟩ = some (.int .i64 r) ∧ w'.cell? ⟨w.heap.size + 1, 3, none⟩ = some (.int .i64 p) ∧ w'.cell? ⟨w.heap.size + 1, 4, none⟩ = some (.int .i64 kk) ∧ w'.cell? ⟨w.heap.size + 1, 5, none⟩ = some (.int .i64 cc) ∧ w'.cell? ⟨w.heap.size + 1, 6, none⟩ = some (.slice a m cp))) w') :=
    fun w' h => ⟨h, sh_cells (HW2.out.later h HW2.out.lt)⟩
  clear d0 d1 d2 d3 d4 d5 d6
  go_wp2_with fail
  go_region_held3 (fun w' => Below w2.heap.size w2 w' ∧ (w'.cell? ⟨w.heap.size + 1, 0, none⟩ = some (.int .i64 (N : Int)) ∧ w'.cell? ⟨w.heap.size + 1, 1, none⟩ = some (.int .i64 q) ∧ w'.cell? ⟨w.heap.size + 1, 2, none⟩ = some (.int .i64 r) ∧ w'.cell? ⟨w.heap.size + 1, 3, none⟩ = some (.int .i64 p) ∧ w'.cell? ⟨w.heap.size + 1, 4, none⟩ = some (.int .i64 kk) ∧ w'.cell? ⟨w.heap.size + 1, 5, none⟩ = some (.int .i64 cc) ∧ w'.cell? ⟨w.heap.size + 1, 6, none⟩ = some (.slice a m cp)))
    (first | exact KP.out _ (Below.refl _ _).drew | (refine KP.out _ ?_; assumption))
    (first | (go_at_call 17; have hcur := (‹Below w2.heap.size w2 _ ∧ _›).1; have hcall := O1.out _ hcur; (with_reducible refine hcall.mono ?_); rintro ee wn ⟨A, C, rfl, hN, hb⟩; have HNo := Lib.hid hN; have hS := held_next hcur hb; clear hb hcall hN) | (go_at_call 16; have hcur := (‹Below w2.heap.size w2 _ ∧ _›).1; have hcall := O2.out _ _ _ hcur HNo.out; (with_reducible refine hcall.mono ?_); rintro ee wn ⟨rfl, hb⟩; have hS := held_next hcur hb; clear hb hcall))
  all_goals (
    have hbx := (‹Below w2.heap.size w2 _ ∧ _›).1
    have Hb3 := Lib.hid (held_next Hb2.out hbx)
    cases b with
    | false =>
      obtain rfl : res = (0, 0) := Hres.out.symm.trans (giveV_no fun h => by
        have h2 := poorU_of_least Hos.out Htb.out
        rw [Hg.out.symm] at h2
        have h3 := (poorU_best (ofV ⟨(N : Int), q, r, p, kk, cc⟩ l) who N).poor (by have h5 : (N : Int) ≠ 1 := h.2.2.2; omega)
        have h4 := h3.1
        rw [if_neg Bool.false_ne_true] at h2
        omega)
      go_wp2_with fail
      go_ret2
      exact ⟨by rfl, Hb3.out⟩
    | true =>
    have hp := poorU_of_least Hos.out Htb.out
    rw [if_pos rfl] at hp
    obtain ⟨hpt, ht0⟩ := hp
    have hN2 : N ≠ 1 := by
      rintro rfl
      obtain rfl : who = 0 := by omega
      have : poorU g 0 1 = -1 := by simp [poorU]
      omega
    have hsb := spareV_bound ⟨(N : Int), q, r, p, kk, cc⟩ l who keep
    have hso := ofV_bound ⟨(N : Int), q, r, p, kk, cc⟩ l who
    have hgt := ofV_bound ⟨(N : Int), q, r, p, kk, cc⟩ l t
    obtain ⟨sp, Hsp⟩ : ∃ z, Hid (spareV ⟨(N : Int), q, r, p, kk, cc⟩ l who keep = z) := ⟨_, rfl⟩
    obtain ⟨gt, Hgt⟩ : ∃ z, Hid (ofV ⟨(N : Int), q, r, p, kk, cc⟩ l t = z) := ⟨_, rfl⟩
    rw [Hsp.out] at hsb
    rw [Hgt.out] at hgt
    have hs1 := hsb.1
    have hs2 : sp ≤ 19140298416324608 := by omega
    obtain ⟨hg1, hg2⟩ := hgt
    have hgive : res = if sp - gt < 2 then (0, 0) else (t, (sp - gt) / 2) := by
      rw [← Hres.out]
      unfold giveV
      have hro : rightOk ⟨(N : Int), q, r, p, kk, cc⟩ l ∧ 0 ≤ who ∧ who < (N : Int) ∧ (N : Int) ≠ 1 := ⟨Hro.out, hw.1, hw.2, by omega⟩
      rw [if_pos hro, Hsp.out, Hg.out]
      show (if sp - g (poorU g who ((N : Int)).toNat) < 2 then ((0, 0) : Int × Int) else (poorU g who ((N : Int)).toNat, (sp - g (poorU g who ((N : Int)).toNat)) / 2)) = _
      rw [Int.toNat_natCast, hpt, show g t = gt by rw [← Hg.out]; exact Hgt.out]
    have Hgive := Lib.hid hgive
    obtain ⟨D, HD⟩ : ∃ z, Hid ((sp - gt).tdiv 2 = z) := ⟨_, rfl⟩
    have hD : (if sp - gt < 2 then D < 1 else D = (sp - gt) / 2) ∧ -19140298416324608 ≤ D ∧ D ≤ 19140298416324608 := by
      rw [← HD.out]
      by_cases h0 : 0 ≤ sp - gt
      · rw [Int.tdiv_eq_ediv_of_nonneg h0]
        refine ⟨?_, by omega, by omega⟩
        split <;> omega
      · have h1 : (sp - gt).tdiv 2 = -((-(sp - gt)).tdiv 2) := by rw [Int.neg_tdiv, Int.neg_neg]
        rw [h1, Int.tdiv_eq_ediv_of_nonneg (by omega), if_pos (by omega)]
        omega
    obtain ⟨hD, hD1, hD2⟩ := hD
    have hwr1 : IntKind.i64.wrap (sp - gt) = sp - gt := IntWalk.i64_in _ (by omega)
    have hwr2 : IntKind.i64.wrap D = D := IntWalk.i64_in _ (by omega)
    have hwr3 : (sp - gt).tdiv 2 = D := HD.out
    have HDD := Lib.hid hD
    clear hgive hso hsb hD
    have O3 : Hid (∀ w', Below w2.heap.size w2 w' → Calls Try.prog 19 #[shV ⟨(N : Int), q, r, p, kk, cc⟩ (.slice a m cp), .int .i64 who, .int .i64 keep] w' (Num w' sp)) := by
      intro w' h; have h2 := sSpare_calls ⟨(N : Int), q, r, p, kk, cc⟩ a m cp l who keep Hm.out hkeep w' (HB.out.later (held_next Hb2.out h)); rwa [Hsp.out] at h2
    have O4 : Hid (∀ w', Below w2.heap.size w2 w' → Calls Try.prog 18 #[shV ⟨(N : Int), q, r, p, kk, cc⟩ (.slice a m cp), .int .i64 t] w' (Num w' gt)) := by
      intro w' h; have h2 := sRights_calls ⟨(N : Int), q, r, p, kk, cc⟩ a m cp l t Hm.out w' (HB.out.later (held_next Hb2.out h)); rwa [Hgt.out] at h2
    go_wp2_with fail
    go_region_held3 (fun w' => Below w2.heap.size w2 w' ∧ (w'.cell? ⟨w.heap.size + 1, 0, none⟩ = some (.int .i64 (N : Int)) ∧ w'.cell? ⟨w.heap.size + 1, 1, none⟩ = some (.int .i64 q) ∧ w'.cell? ⟨w.heap.size + 1, 2, none⟩ = some (.int .i64 r) ∧ w'.cell? ⟨w.heap.size + 1, 3, none⟩ = some (.int .i64 p) ∧ w'.cell? ⟨w.heap.size + 1, 4, none⟩ = some (.int .i64 kk) ∧ w'.cell? ⟨w.heap.size + 1, 5, none⟩ = some (.int .i64 cc) ∧ w'.cell? ⟨w.heap.size + 1, 6, none⟩ = some (.slice a m cp)))
      (first | exact KP.out _ hbx.drew | (refine KP.out _ ?_; assumption))
      (first | (go_at_call 19; have hcur := (‹Below w2.heap.size w2 _ ∧ _›).1; have hcall := O3.out _ hcur; (with_reducible refine hcall.mono ?_); rintro ee wn ⟨rfl, hb⟩; have hS := held_next hcur hb; clear hb hcall) | (go_at_call 18; have hcur := (‹Below w2.heap.size w2 _ ∧ _›).1; have hcall := O4.out _ hcur; (with_reducible refine hcall.mono ?_); rintro ee wn ⟨rfl, hb⟩; have hS := held_next hcur hb; clear hb hcall))
    clear hbx
    have hbx := (‹Below w2.heap.size w2 _ ∧ _›).1
    have Hb4 := Lib.hid (held_next Hb2.out hbx)
    clear hwr1 hwr2 hwr3
    by_cases hlow : D < 1
    · obtain rfl : res = (0, 0) := by
        rw [Hgive.out]
        have := HDD.out
        split
        · rfl
        · rename_i h; rw [if_neg h] at this; omega
      go_wp2_with fail
      go_ret2
      exact ⟨by rfl, Hb4.out⟩
    · obtain rfl : res = (t, D) := by
        rw [Hgive.out]
        have := HDD.out
        split
        · rename_i h; rw [if_pos h] at this; omega
        · rename_i h; rw [if_neg h] at this; rw [this]
      go_wp2_with fail
      go_ret2
      exact ⟨by rfl, Hb4.out⟩)
set_option maxRecDepth 100000 in
set_option maxHeartbeats 8000000 in
theorem sGrant_calls (c : Cf) (a : Option Addr) (m cp : Nat) (l : List Rw) (who keep tg need : Int) (hm : m = l.length) (hkeep : keep ≤ 9223372036854775807) (w : World) (hB : Books w (.slice a m cp) l) :
    Calls Try.prog 10 #[cfV c, .slice a m cp, .int .i64 who, .int .i64 keep, .int .i64 tg, .int .i64 need] w (Num w (grantV c l who keep tg need)) := by
  have hmf : ∀ (fn : Fn) (first cap : Array Value) (w : World), (Instr.makeFunc fn first cap).run Try.prog w = .ok (.func fn first cap) w := fun _ _ _ _ => rfl
  have HW := Lib.hid (Whole.made (w.alloc (.cells (cfCells c) 23)) 39 (shCells c (.slice a m cp)))
  have Hb0 := Lib.hid (below_two w (.cells (cfCells c) 23) (.cells (shCells c (.slice a m cp)) 39))
  have HB := Lib.hid hB; clear hB
  have Hm := Lib.hid hm; clear hm
  have hsz : (w.alloc (.cells (cfCells c) 23)).heap.size = w.heap.size + 1 := by simp
  rw [hsz] at HW
  clear hsz
  obtain ⟨n, q, r, p, kk, cc⟩ := c
  obtain ⟨res, Hres⟩ : ∃ z, Hid (grantV ⟨n, q, r, p, kk, cc⟩ l who keep tg need = z) := ⟨_, rfl⟩
  rw [Hres.out]
  obtain ⟨ok, Hok⟩ : ∃ z, Hid (rightB ⟨n, q, r, p, kk, cc⟩ l = z) := ⟨_, rfl⟩
  obtain ⟨d0, d1, d2, d3, d4, d5, d6⟩ := sh_cells HW.out
  simp only at d0 d1 d2 d3 d4 d5 d6
  go_enter Try.func10, Try.ntmps10
  go_wp2_with fail
  refine (sRight_calls ⟨n, q, r, p, kk, cc⟩ a m cp l Hm.out _ (HB.out.later Hb0.out)).mono ?_
  rintro e w1 ⟨rfl, hb⟩
  rw [Hok.out]
  have Hb1 := Lib.hid (held_next Hb0.out hb)
  have HW1 := Lib.hid (HW.out.later hb HW.out.lt)
  clear hb d0 d1 d2 d3 d4 d5 d6
  obtain ⟨d0, d1, d2, d3, d4, d5, d6⟩ := sh_cells HW1.out
  simp only at d0 d1 d2 d3 d4 d5 d6
  cases ok with
  | false =>
    obtain rfl : res = 0 := Hres.out.symm.trans (grantV_no fun h => by
      have : rightB ⟨n, q, r, p, kk, cc⟩ l = true := decide_eq_true h.1
      rw [Hok.out] at this
      cases this)
    go_wp2_with fail
    go_ret
    exact ⟨by rfl, Hb1.out⟩
  | true =>
  have Hro := Lib.hid (rightB_ok Hok.out)
  go_wp2_with fail
  refine (sAmong_calls ⟨n, q, r, p, kk, cc⟩ _ who _).mono ?_
  rintro e w2 ⟨rfl, hb⟩
  have Hb2 := Lib.hid (held_next Hb1.out hb)
  have HW2 := Lib.hid (HW1.out.later hb HW1.out.lt)
  clear hb d0 d1 d2 d3 d4 d5 d6
  obtain ⟨d0, d1, d2, d3, d4, d5, d6⟩ := sh_cells HW2.out
  simp only at d0 d1 d2 d3 d4 d5 d6
  by_cases hw : 0 ≤ who ∧ who < n
  rotate_left 1
  · rw [amongB_no hw]
    obtain rfl : res = 0 := Hres.out.symm.trans (grantV_no fun h => hw h.2.1)
    go_wp2_with fail
    go_ret
    exact ⟨by rfl, Hb2.out⟩
  rw [amongB_yes hw]
  go_wp2_with fail
  refine (sAmong_calls ⟨n, q, r, p, kk, cc⟩ _ tg _).mono ?_
  rintro e w3 ⟨rfl, hb⟩
  have Hb3 := Lib.hid (held_next Hb2.out hb)
  have HW3 := Lib.hid (HW2.out.later hb HW2.out.lt)
  clear hb d0 d1 d2 d3 d4 d5 d6
  obtain ⟨d0, d1, d2, d3, d4, d5, d6⟩ := sh_cells HW3.out
  simp only at d0 d1 d2 d3 d4 d5 d6
  by_cases ht : 0 ≤ tg ∧ tg < n
  rotate_left 1
  · rw [amongB_no ht]
    obtain rfl : res = 0 := Hres.out.symm.trans (grantV_no fun h => ht h.2.2.1)
    go_wp2_with fail
    go_ret
    exact ⟨by rfl, Hb3.out⟩
  rw [amongB_yes ht]
  by_cases h5 : tg = who
  · obtain rfl : res = 0 := Hres.out.symm.trans (grantV_no fun h => h.2.2.2.1 h5)
    subst h5
    go_wp2_with fail
    go_ret
    exact ⟨by rfl, Hb3.out⟩
  have h5' : (tg == who) = false := beq_eq_false_iff_ne.2 h5
  have H5 := Lib.hid h5; clear h5
  by_cases h7 : need < 1
  · obtain rfl : res = 0 := Hres.out.symm.trans (grantV_no fun h => by have := h.2.2.2.2.2.1; omega)
    go_wp2_with fail
    go_ret
    exact ⟨by rfl, Hb3.out⟩
  by_cases h6 : 1099511627776 < need
  · obtain rfl : res = 0 := Hres.out.symm.trans (grantV_no fun h => by have := h.2.2.2.2.1; omega)
    go_wp2_with fail
    go_ret
    exact ⟨by rfl, Hb3.out⟩
  have hob := ofV_bound ⟨n, q, r, p, kk, cc⟩ l tg
  have hsb := spareV_bound ⟨n, q, r, p, kk, cc⟩ l who keep
  have hso := ofV_bound ⟨n, q, r, p, kk, cc⟩ l who
  obtain ⟨o, Ho⟩ : ∃ z, Hid (ofV ⟨n, q, r, p, kk, cc⟩ l tg = z) := ⟨_, rfl⟩
  obtain ⟨sp, Hsp⟩ : ∃ z, Hid (spareV ⟨n, q, r, p, kk, cc⟩ l who keep = z) := ⟨_, rfl⟩
  rw [Ho.out] at hob
  rw [Hsp.out] at hsb
  obtain ⟨ho1, ho2⟩ := hob
  have hs1 := hsb.1
  have hs2 : sp ≤ 19140298416324608 := by omega
  clear hsb hso
  have Hmin : Hid (max (min (need - o) sp) 0 = res) := by
    show _ = _
    rw [← Hres.out]
    unfold grantV
    by_cases h8 : 1 ≤ need - o
    · have hc : rightOk ⟨n, q, r, p, kk, cc⟩ l ∧ (0 ≤ who ∧ who < n) ∧ (0 ≤ tg ∧ tg < n) ∧ tg ≠ who ∧ need ≤ 1099511627776 ∧ 1 ≤ need ∧ 1 ≤ need - ofV ⟨n, q, r, p, kk, cc⟩ l tg := by
        rw [Ho.out]; exact ⟨Hro.out, hw, ht, H5.out, by omega, by omega, h8⟩
      rw [if_pos hc, Ho.out, Hsp.out]
      omega
    · rw [if_neg (fun h => h8 (by have := h.2.2.2.2.2.2; rwa [Ho.out] at this))]
      omega
  have O3 : Hid (∀ w', Below w3.heap.size w3 w' → Calls Try.prog 19 #[shV ⟨n, q, r, p, kk, cc⟩ (.slice a m cp), .int .i64 who, .int .i64 keep] w' (Num w' sp)) := by
    intro w' h; have h2 := sSpare_calls ⟨n, q, r, p, kk, cc⟩ a m cp l who keep Hm.out hkeep w' (HB.out.later (held_next Hb3.out h)); rwa [Hsp.out] at h2
  have O4 : Hid (∀ w', Below w3.heap.size w3 w' → Calls Try.prog 18 #[shV ⟨n, q, r, p, kk, cc⟩ (.slice a m cp), .int .i64 tg] w' (Num w' o)) := by
    intro w' h; have h2 := sRights_calls ⟨n, q, r, p, kk, cc⟩ a m cp l tg Hm.out w' (HB.out.later (held_next Hb3.out h)); rwa [Ho.out] at h2
  have KP : Hid (∀ w', Below w3.heap.size w3 w' → (fun w' => Below w3.heap.size w3 w' ∧ (w'.cell? ⟨w.heap.size + 1, 0, none⟩ = some (.int .i64 n) ∧ w'.cell? ⟨w.heap.size + 1, 1, none⟩ = some (.int .i64 q) ∧ w'.cell? ⟨w.heap.size + 1, 2, none⟩ = some (.int .i64 r) ∧ w'.cell? ⟨w.heap.size + 1, 3, none⟩ = some (.int .i64 p) ∧ w'.cell? ⟨w.heap.size + 1, 4, none⟩ = some (.int .i64 kk) ∧ w'.cell? ⟨w.heap.size + 1, 5, none⟩ = some (.int .i64 cc) ∧ w'.cell? ⟨w.heap.size + 1, 6, none⟩ = some (.slice a m cp))) w') :=
    fun w' h => ⟨h, sh_cells (HW3.out.later h HW3.out.lt)⟩
  have hwr1 : IntKind.i64.wrap (need - o) = need - o := IntWalk.i64_in _ (by omega)
  clear d0 d1 d2 d3 d4 d5 d6
  go_wp2_with fail
  go_region_held3 (fun w' => Below w3.heap.size w3 w' ∧ (w'.cell? ⟨w.heap.size + 1, 0, none⟩ = some (.int .i64 n) ∧ w'.cell? ⟨w.heap.size + 1, 1, none⟩ = some (.int .i64 q) ∧ w'.cell? ⟨w.heap.size + 1, 2, none⟩ = some (.int .i64 r) ∧ w'.cell? ⟨w.heap.size + 1, 3, none⟩ = some (.int .i64 p) ∧ w'.cell? ⟨w.heap.size + 1, 4, none⟩ = some (.int .i64 kk) ∧ w'.cell? ⟨w.heap.size + 1, 5, none⟩ = some (.int .i64 cc) ∧ w'.cell? ⟨w.heap.size + 1, 6, none⟩ = some (.slice a m cp)))
    (first | exact KP.out _ (Below.refl _ _).drew | (refine KP.out _ ?_; assumption))
    (first | (go_at_call 19; have hcur := (‹Below w3.heap.size w3 _ ∧ _›).1; have hcall := O3.out _ hcur; (with_reducible refine hcall.mono ?_); rintro ee wn ⟨rfl, hb⟩; have hS := held_next hcur hb; clear hb hcall) | (go_at_call 18; have hcur := (‹Below w3.heap.size w3 _ ∧ _›).1; have hcall := O4.out _ hcur; (with_reducible refine hcall.mono ?_); rintro ee wn ⟨rfl, hb⟩; have hS := held_next hcur hb; clear hb hcall))
  all_goals (
    have hbx := (‹Below w3.heap.size w3 _ ∧ _›).1
    have Hb4 := Lib.hid (held_next Hb3.out hbx)
    clear hwr1
    go_wp2_with fail
    go_ret
    exact ⟨by rw [← Hmin.out]; rfl, Hb4.out⟩)
end Go.Proofs.Ytkkhecdmjcffjaa
