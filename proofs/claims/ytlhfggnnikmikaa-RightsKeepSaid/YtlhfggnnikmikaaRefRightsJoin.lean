/- The document's own Join of books. No law is proved here. -/
import Derived.Test.YtlhfggnnikmikaaRefRightsCopy
import Derived.Test.YtlhfggnnikmikaaRefRightsRight
import Derived.Test.YtlhfggnnikmikaaRef04Join
import Derived.Deep.DeepCutAuto
namespace Go.Proofs.Ytlhfggnnikmikaa
open Go.RowKit
attribute [local go_sem ↓] run_fine

/-- two rows joined -/
def joinRw (x y : Rw) : Rw := ⟨max x.inc y.inc, max x.use y.use, joinL x.out y.out⟩
def joinLs (la lb : List Rw) : List Rw := List.zipWith joinRw la lb
theorem joinLs_length {la lb : List Rw} (h : la.length = lb.length) : (joinLs la lb).length = la.length := by simp [joinLs, h]
theorem joinLs_at {la lb : List Rw} (h : la.length = lb.length) {k : Nat} (hk : k < la.length) : at_ (joinLs la lb) k = joinRw (at_ la k) (at_ lb k) := by
  have h2 : k < lb.length := by omega
  have h3 : k < (List.zipWith joinRw la lb).length := by rw [List.length_zipWith]; omega
  simp [joinLs, at_, hk, h2, List.getElem?_eq_getElem h3]
/-- books joined, and what came of it -/
def joinR (c : Cf) (la lb : List Rw) : List Rw × Int := if rightOk c la ∧ rightOk c lb then (if rightOk c (joinLs la lb) then (joinLs la lb, 0) else ([], 7)) else ([], 1)
def JoinedB (w : World) (x : List Rw × Int) (e : Ending) (w' : World) : Prop :=
  ∃ A C, e = .returned (.tuple #[.slice A x.1.length C, .int .i64 x.2]) ∧ Books w' (.slice A x.1.length C) x.1 ∧ Below w.heap.size w w'

set_option maxRecDepth 100000 in
set_option maxHeartbeats 8000000 in
theorem refjoinbooks_calls (c : Cf) (a : Option Addr) (m d : Nat) (b : Option Addr) (n f : Nat) (la lb : List Rw) (hm : m = la.length) (hn : n = lb.length) (w : World) (hA : Books w (.slice a m d) la) (hB : Books w (.slice b n f) lb) :
    Calls Try.prog 25 #[cfV c, .slice a m d, .slice b n f] w (JoinedB w (joinR c la lb)) := by
  have HW := Lib.hid (Whole.made w 23 (cfCells c))
  have Hb0 := Lib.hid (below_box w (.cells (cfCells c) 23))
  have HA := Lib.hid hA; clear hA
  have HB := Lib.hid hB; clear hB
  have Hm := Lib.hid hm; clear hm
  have Hn := Lib.hid hn; clear hn
  obtain ⟨nn, q, r, p, kk, cc⟩ := c
  obtain ⟨oka, Hoka⟩ : ∃ z, Hid (rightB ⟨nn, q, r, p, kk, cc⟩ la = z) := ⟨_, rfl⟩
  obtain ⟨okb, Hokb⟩ : ∃ z, Hid (rightB ⟨nn, q, r, p, kk, cc⟩ lb = z) := ⟨_, rfl⟩
  obtain ⟨res, Hres⟩ : ∃ z, Hid (joinR ⟨nn, q, r, p, kk, cc⟩ la lb = z) := ⟨_, rfl⟩
  rw [Hres.out]
  go_enter Try.func25, Try.ntmps25
  go_wp2_with fail
  refine (refright_calls ⟨nn, q, r, p, kk, cc⟩ a m d la Hm.out _ (HA.out.later Hb0.out)).mono ?_
  rintro e w1 ⟨rfl, hb⟩
  rw [Hoka.out]
  have Hb1 := Lib.hid (held_next Hb0.out hb)
  have HW1 := Lib.hid (HW.out.later hb HW.out.lt)
  clear hb
  obtain ⟨d0, d1, d2, d3, d4, d5⟩ := config_cells HW1.out
  simp only at d0 d1 d2 d3 d4 d5
  cases oka with
  | false =>
    obtain rfl : res = ([], 1) := Hres.out.symm.trans (if_neg fun h => by
      have := decide_eq_true h.1
      rw [show decide (rightOk ⟨nn, q, r, p, kk, cc⟩ la) = false from Hoka.out] at this
      cases this)
    go_wp2_with fail
    go_ret2
    exact ⟨none, 0, by rfl, books_nil _ _ _ (fun _ => rfl), Hb1.out⟩
  | true =>
  go_wp2_with fail
  refine (refright_calls ⟨nn, q, r, p, kk, cc⟩ b n f lb Hn.out _ (HB.out.later Hb1.out)).mono ?_
  rintro e w2 ⟨rfl, hb⟩
  rw [Hokb.out]
  have Hb2 := Lib.hid (held_next Hb1.out hb)
  have HW2 := Lib.hid (HW1.out.later hb HW1.out.lt)
  clear hb d0 d1 d2 d3 d4 d5
  cases okb with
  | false =>
    obtain rfl : res = ([], 1) := Hres.out.symm.trans (if_neg fun h => by
      have := decide_eq_true h.2
      rw [show decide (rightOk ⟨nn, q, r, p, kk, cc⟩ lb) = false from Hokb.out] at this
      cases this)
    go_wp2_with fail
    go_ret2
    exact ⟨none, 0, by rfl, books_nil _ _ _ (fun _ => rfl), Hb2.out⟩
  | true =>
  have hRa := rightB_ok Hoka.out
  have hRb := rightB_ok Hokb.out
  have hl1 := hRa.2.1
  have hl2 := hRb.2.1
  have h16 := hRa.len
  have hnm : n = m := by have := Hm.out; have := Hn.out; omega
  have hcm : nn = (m : Int) := by have := Hm.out; simp only at hl1; omega
  have h16' : m ≤ 16 := by have := Hm.out; omega
  have HRes : Hid (res = if rightOk ⟨nn, q, r, p, kk, cc⟩ (joinLs la lb) then (joinLs la lb, 0) else ([], 7)) := Hres.out.symm.trans (if_pos ⟨hRa, hRb⟩)
  have HFa := Lib.hid hRa.fits
  have HFb := Lib.hid hRb.fits
  have Hll : Hid (la.length = lb.length) := by have := Hm.out; have := Hn.out; show _ = _; omega
  clear hRa hRb hl1 hl2 h16
  subst hnm
  subst hcm
  obtain ⟨i5, hi, hz0, hz1, hz2⟩ := info_parts info_row
  have Ki := Lib.hid hi; clear hi
  have Kz0 := Lib.hid hz0; clear hz0
  have Kz1 := Lib.hid hz1; clear hz1
  have Kz2 := Lib.hid hz2; clear hz2
  have hjl : (joinLs la lb).length = n := by rw [joinLs_length Hll.out, ← Hm.out]
  have Hjl := Lib.hid hjl; clear hjl
  obtain ⟨J, HJ⟩ : ∃ z, Hid (joinLs la lb = z) := ⟨_, rfl⟩
  rw [HJ.out] at HRes Hjl
  go_wp2_with fail
  go_loopw [8, 9] (fun t i wr => ∃ (k : Nat) (tv : Value), k ≤ n ∧ t = tv ∧ i = .int .i64 k ∧ Hid (OwnBooks wr w.heap.size tv (J.take k)) ∧ Hid (Below w.heap.size w wr) ∧ Hid (Whole wr w.heap.size 23 (cfCells ⟨n, q, r, p, kk, cc⟩))) (fun _ i _ => n - (intOf i).toNat)
  case atStart => exact ⟨0, _, Nat.zero_le _, rfl, rfl, by rw [List.take_zero]; exact ownBooks_nil _ _, Hb2.out, HW2.out⟩
  case round =>
    obtain ⟨k, tv, hk, htv, rfl, HO, Hb, HWr⟩ := hrel
    have htv' := htv.symm
    subst htv'
    clear htv
    obtain ⟨d0, d1, d2, d3, d4, d5⟩ := config_cells HWr.out
    simp only at d0 d1 d2 d3 d4 d5
    have hbm : n ≤ 9223372036854775807 := by omega
    by_cases hlt : k < n
    · obtain ⟨g, hG⟩ := HO.out
      obtain ⟨b1, o1, A1, C1, rfl, hb1, x0, x1, x2, hN1⟩ := HA.out.at (k := k) (by have := Hm.out; omega)
      obtain ⟨b2, o2, A2, C2, rfl, hb2, y0, y1, y2, hN2⟩ := HB.out.at (k := k) (by have := Hn.out; omega)
      have hjk := joinLs_at Hll.out (k := k) (by have := Hm.out; omega)
      rw [HJ.out] at hjk
      have ho1 := (HFa.out k (by have := Hm.out; omega)).1
      have ho2 := (HFb.out k (by have := Hn.out; omega)).1
      rw [← Hm.out] at ho1
      rw [← Hn.out] at ho2
      obtain ⟨r1, R1⟩ : ∃ z, Hid (at_ la k = z) := ⟨_, rfl⟩
      obtain ⟨r2, R2⟩ : ∃ z, Hid (at_ lb k = z) := ⟨_, rfl⟩
      rw [R1.out] at x0 x1 x2 hN1 hjk ho1
      rw [R2.out] at y0 y1 y2 hN2 hjk ho2
      rw [ho1] at x2 hN1
      rw [ho2] at y2 hN2
      obtain ⟨I, HI⟩ : ∃ z, Hid (max r1.inc r2.inc = z) := ⟨_, rfl⟩
      obtain ⟨U, HU⟩ : ∃ z, Hid (max r1.use r2.use = z) := ⟨_, rfl⟩
      obtain ⟨L, HL⟩ : ∃ z, Hid (joinL r1.out r2.out = z) := ⟨_, rfl⟩
      have hLn : L.length = n := by rw [← HL.out, joinL_length (by rw [ho1, ho2]), ho1]
      have HJk : Hid (at_ J k = ⟨I, U, L⟩) := by rw [hjk, ← HI.out, ← HU.out, ← HL.out]; exact rfl
      have HN1 := Lib.hid hN1
      have HN2 := Lib.hid hN2
      have Ho1 := Lib.hid ho1.symm
      have Ho2 := Lib.hid ho2.symm
      have KP : Hid (∀ w', Below wr.heap.size wr w' → Below wr.heap.size wr w' ∧ (w'.cell? ⟨b1, o1 + k * 3, none⟩ = some (.int .i64 r1.inc) ∧ w'.cell? ⟨b1, o1 + k * 3 + 1, none⟩ = some (.int .i64 r1.use) ∧ w'.cell? ⟨b1, o1 + k * 3 + 2, none⟩ = some (.slice A1 n C1)) ∧
          (w'.cell? ⟨b2, o2 + k * 3, none⟩ = some (.int .i64 r2.inc) ∧ w'.cell? ⟨b2, o2 + k * 3 + 1, none⟩ = some (.int .i64 r2.use) ∧ w'.cell? ⟨b2, o2 + k * 3 + 2, none⟩ = some (.slice A2 n C2))) :=
        fun w' h => ⟨h, ⟨cell_later (held_next Hb.out h) x0, cell_later (held_next Hb.out h) x1, cell_later (held_next Hb.out h) x2⟩, cell_later (held_next Hb.out h) y0, cell_later (held_next Hb.out h) y1, cell_later (held_next Hb.out h) y2⟩
      have OM : Hid (∀ w', Below wr.heap.size wr w' → Calls Try.prog 44 #[rowV r1.inc r1.use (.slice A1 n C1), rowV r2.inc r2.use (.slice A2 n C2)] w' (JoinedO w' n I U L)) := by
        rw [← HI.out, ← HU.out, ← HL.out]
        exact fun w' h => refjoin_own A1 n C1 A2 C2 r1.inc r1.use r2.inc r2.use r1.out r2.out Ho1.out Ho2.out w' (HN1.out.later (held_next Hb.out h)) (HN2.out.later (held_next Hb.out h)) (by omega)
      have HG := Lib.hid hG
      have HLn := Lib.hid hLn
      clear x0 x1 x2 y0 y1 y2 hN1 hN2 hjk ho1 ho2 hG hLn
      have k0 : (0 : Int) ≤ (k : Int) := by omega
      have k1 : (k : Int) < (n : Int) := by omega
      go_wp2_with fail
      go_cut [10, 11] from 28 to 39 (fun s10 s11 wx => ∃ (g2 : Nat) (A3 : Option Addr) (C3 : Nat), s10 = .pointer (some ⟨g2, 0, none⟩) ∧ s11 = .bool true ∧ Hid (Below wr.heap.size wr wx) ∧ Hid (Whole wx g2 49 #[.int .i64 I, .int .i64 U, .slice A3 n C3]) ∧ Hid (wx.ownsRow wr.heap.size 2 1 (.slice A3 n C3) n (L.map (Value.int .i64))))
      case first =>
        go_region_held3 (fun w' => Below wr.heap.size wr w' ∧ (w'.cell? ⟨b1, o1 + k * 3, none⟩ = some (.int .i64 r1.inc) ∧ w'.cell? ⟨b1, o1 + k * 3 + 1, none⟩ = some (.int .i64 r1.use) ∧ w'.cell? ⟨b1, o1 + k * 3 + 2, none⟩ = some (.slice A1 n C1)) ∧
            (w'.cell? ⟨b2, o2 + k * 3, none⟩ = some (.int .i64 r2.inc) ∧ w'.cell? ⟨b2, o2 + k * 3 + 1, none⟩ = some (.int .i64 r2.use) ∧ w'.cell? ⟨b2, o2 + k * 3 + 2, none⟩ = some (.slice A2 n C2)))
          (first | exact KP.out _ (Below.refl _ _).drew | exact KP.out _ (below_box _ _) | exact KP.out _ (below_box _ _).drew | (refine KP.out _ ?_; assumption) | exact KP.out _ ((‹Below wr.heap.size wr _›).alloc (‹Below wr.heap.size wr _›).size _) | exact KP.out _ (((‹Below wr.heap.size wr _›).alloc (‹Below wr.heap.size wr _›).size _).drew) | exact KP.out _ ((((‹Below wr.heap.size wr _›).setCell (by simp) _).setCell (by simp) _).setCell (by simp) _) | exact KP.out _ ((((((‹Below wr.heap.size wr _›).alloc (‹Below wr.heap.size wr _›).size _).setCell (by simp; omega) _).setCell (by simp; omega) _).setCell (by simp; omega) _)))
          (first | (go_at_call 44; have hcur := (‹Below wr.heap.size wr _ ∧ _ ∧ _›).1; refine (OM.out _ hcur).mono ?_; rintro ee w3 ⟨A3, C3, rfl, hO3, hb3⟩; have hZ := (Whole.made wr 49 #[.int .i64 0, .int .i64 0, .slice none 0 0]).drew.later hb3 (by simp); have hS1 := held_next hcur hb3; have HO3 := Lib.hid (own_base hO3 hcur.size); have hsz3 := hb3.size; obtain ⟨z0, z1, z2⟩ := row_cells hZ; have y0 := hZ.free 0; have y1 := hZ.free 1; have y2 := hZ.free 2; have HZ := Lib.hid hZ; clear hO3 hb3 hZ) | (go_at_call 44; have hcur := (‹Below wr.heap.size wr _ ∧ _ ∧ _›).1; refine (OM.out _ hcur).mono ?_; rintro ee w3 ⟨A3, C3, rfl, hO3, hb3⟩; have hS1 := held_next hcur hb3; have HO3 := Lib.hid (own_base hO3 hcur.size); have hsz3 := hS1.size; clear hO3 hb3))
        all_goals go_wp2_with fail
        all_goals go_meet
        · exact ⟨w3.heap.size, A3, C3, rfl, rfl, (‹Below wr.heap.size wr (w3.alloc _) ∧ _ ∧ _›).1, Whole.made w3 _ _, own_later HO3.out (below_box w3 _)⟩
        · exact ⟨wr.heap.size, A3, C3, rfl, rfl, (‹Below wr.heap.size wr (((w3.setCell _ _).setCell _ _).setCell _ _) ∧ _ ∧ _›).1, ((HZ.out.set 0 (.int .i64 I)).set 1 (.int .i64 U)).set 2 (.slice A3 n C3),
            ((HO3.out.kept (grownBy_set w3 _ _) (.inr (HZ.out.not_row (by decide) HO3.out).symm)).kept (grownBy_set _ _ _) (.inr (HZ.out.not_row (by decide) HO3.out).symm)).kept (grownBy_set _ _ _) (.inr (HZ.out.not_row (by decide) HO3.out).symm)⟩
      case rest =>
        obtain ⟨g2, A3, C3, rfl, rfl, Hbc, HWc, HO3⟩ := hcut
        clear KP OM
        have htl : (J.take k).length = k := by rw [List.length_take, Hjl.out]; omega
        have hG := HG.out
        have hbsz := Hb.out.size
        obtain ⟨m0, m1, m2⟩ := row_cells HWc.out
        have hb3 : Below wr.heap.size wr (wc.alloc (.cells #[.int .i64 I, .int .i64 U, .slice A3 n C3] 49)) := Hbc.out.alloc Hbc.out.size _
        obtain ⟨v2, w4, hrun2, p1, p2, p3⟩ := run_append_elems (P := Try.prog) (w := wc.alloc (.cells #[.int .i64 I, .int .i64 U, .slice A3 n C3] 49)) 24 24 w.heap.size 49 i5 _ 3 40 Try.underlying24 Ki.out Kz0.out Kz1.out Kz2.out rfl (by decide)
          _ _ _ (own_later hG.1 hb3) (some ⟨wc.heap.size, 0, none⟩) 1 1 (fun _ j => if j = 0 then .int .i64 I else if j = 1 then .int .i64 U else .slice A3 n C3) (one_row (Whole.made wc _ _))
          (fun i j _ hj => by match j, hj with | 0, _ => rfl | 1, _ => rfl | 2, _ => rfl) (by rw [htl]; unfold maxLen; omega) (by rw [htl]; omega) (by have := hb3.size; omega)
        obtain ⟨A2', C2', rfl, _⟩ := elems_of_own p1 (by rw [htl]; omega)
        have hpush := ownG_push (r := ⟨I, U, L⟩) hG hb3 hbsz (by show World.ownsRow _ _ _ _ _ L.length _; rw [HLn.out]; exact own_later HO3.out (below_box wc _)) ⟨A3, C3, by rw [HLn.out]⟩ p1 p3.1
        have Hpush : Hid (OwnBooks w4 w.heap.size (.slice A2' (k + 1) C2') (J.take (k + 1))) := by
          rw [take_at (by have := Hjl.out; omega), HJk.out]
          rw [htl] at hpush
          exact ⟨_, hpush⟩
        have Hbn : Hid (Below w.heap.size w w4) := (Hb.out.trans (hb3.mono hbsz)).trans p2
        have HWn : Hid (Whole w4 w.heap.size 23 (cfCells ⟨n, q, r, p, kk, cc⟩)) := by
          have h1 := (HWr.out.later Hbc.out HWr.out.lt).alloc (.cells #[.int .i64 I, .int .i64 U, .slice A3 n C3] 49)
          exact (p3.whole h1 (fun e => (h1.not_row (by decide) (own_later hG.1 hb3)) e.symm)).1
        rw [htl] at hrun2
        have hf2 : Fine Try.prog (wc.alloc (.cells #[.int .i64 I, .int .i64 U, .slice A3 n C3] 49)) #[24, 24] 24 #[tv, .slice (some ⟨wc.heap.size, 0, none⟩) 1 1] := ⟨_, _, hrun2⟩
        have hv2 : appV Try.prog (wc.alloc (.cells #[.int .i64 I, .int .i64 U, .slice A3 n C3] 49)) #[24, 24] 24 #[tv, .slice (some ⟨wc.heap.size, 0, none⟩) 1 1] = .slice A2' (k + 1) C2' := by unfold appV; rw [hrun2]; rfl
        have hw2 : appW Try.prog (wc.alloc (.cells #[.int .i64 I, .int .i64 U, .slice A3 n C3] 49)) #[24, 24] 24 #[tv, .slice (some ⟨wc.heap.size, 0, none⟩) 1 1] = w4 := by unfold appW; rw [hrun2]; rfl
        clear hrun2 p1 p2 p3 hpush hb3 hG htl d0 d1 d2 d3 d4 d5
        go_wp2
        go_roundw
        case rel => exact ⟨k + 1, _, by omega, rfl, by go_num, Hpush, Hbn, HWn⟩
        case measure => simp [intOf]; omega
    · have hkm : k = n := by omega
      have hO := HO.out
      rw [hkm, List.take_of_length_le (by rw [Hjl.out]; exact Nat.le_refl _)] at hO
      obtain ⟨A, C, e, hBk⟩ := hO.books (by rw [Hjl.out]; omega) (fun q hq => by
        have h1 := joinLs_at Hll.out (k := q) (by have := Hm.out; have := Hjl.out; omega)
        have h2 := (HFa.out q (by have := Hm.out; have := Hjl.out; omega)).1
        have h3 := (HFb.out q (by have := Hn.out; have := Hjl.out; omega)).1
        rw [HJ.out] at h1
        rw [h1]
        have h4 : (joinRw (at_ la q) (at_ lb q)).out.length = (at_ la q).out.length := joinL_length (by rw [h2, h3, Hll.out])
        rw [h4, h2]
        have := Hm.out
        omega)
      rw [Hjl.out] at e hBk
      subst e
      have HBk := Lib.hid hBk
      have Hkm := Lib.hid hkm
      obtain ⟨okj, Hokj⟩ : ∃ z, Hid (rightB ⟨n, q, r, p, kk, cc⟩ J = z) := ⟨_, rfl⟩
      clear hO hBk hkm
      go_wp2_with fail
      refine (refright_calls ⟨n, q, r, p, kk, cc⟩ A n C J Hjl.out.symm _ HBk.out).mono ?_
      rintro e w5 ⟨rfl, hb⟩
      rw [Hokj.out]
      have Hb5 := Lib.hid (held_next Hb.out hb)
      have HBk5 := Lib.hid (HBk.out.later hb)
      clear hb d0 d1 d2 d3 d4 d5
      cases okj with
      | false =>
        obtain rfl : res = ([], 7) := HRes.out.trans (if_neg fun h => by
          have := decide_eq_true h
          rw [show decide (rightOk ⟨n, q, r, p, kk, cc⟩ J) = false from Hokj.out] at this
          cases this)
        go_wp2_with fail
        go_ret2
        exact ⟨none, 0, by rfl, books_nil _ _ _ (fun _ => rfl), Hb5.out⟩
      | true =>
        obtain rfl : res = (J, 0) := HRes.out.trans (if_pos (rightB_ok Hokj.out))
        go_wp2_with fail
        go_ret2
        exact ⟨A, C, by rw [Hjl.out]; rfl, by rw [Hjl.out]; exact HBk5.out, Hb5.out⟩
end Go.Proofs.Ytlhfggnnikmikaa
