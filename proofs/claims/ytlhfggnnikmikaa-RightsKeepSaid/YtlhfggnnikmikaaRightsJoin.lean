/- Join of books, package rights. No law is proved here. -/
import Derived.Test.YtlhfggnnikmikaaRightsRight
import Derived.Test.YtlhfggnnikmikaaRightsOwn
import Derived.Test.YtlhfggnnikmikaaRefRightsJoin
import Derived.Test.YtlhfggnnikmikaaRowJoin
import Derived.Test.YtlhfggnnikmikaaGoto
namespace Go.Proofs.Ytlhfggnnikmikaa
open Go.RowKit

set_option maxRecDepth 100000 in
set_option maxHeartbeats 8000000 in
theorem rJoin_calls (c : Cf) (a : Option Addr) (m d : Nat) (b : Option Addr) (n f : Nat) (la lb : List Rw) (hm : m = la.length) (hn : n = lb.length) (w : World) (hA : Books w (.slice a m d) la) (hB : Books w (.slice b n f) lb) :
    Calls Try.prog 24 #[cfV c, .slice a m d, .slice b n f] w (JoinedB w (joinR c la lb)) := by
  have HW := Lib.hid (Whole.made w 23 (cfCells c))
  have Hb0 := Lib.hid (below_box w (.cells (cfCells c) 23))
  have HA := Lib.hid hA; clear hA
  have HB := Lib.hid hB; clear hB
  have Hm := Lib.hid hm; clear hm
  have Hn := Lib.hid hn; clear hn
  obtain ⟨nn, q, r, p, kk, cc⟩ := c
  obtain ⟨oka, Hoka⟩ : ∃ z, Hid (rightB ⟨nn, q, r, p, kk, cc⟩ la = z) := ⟨_, rfl⟩
  obtain ⟨okb, Hokb⟩ : ∃ z, Hid (rightB ⟨nn, q, r, p, kk, cc⟩ lb = z) := ⟨_, rfl⟩
  obtain ⟨res, Hres⟩ : ∃ z, Hid (joinR ⟨nn, q, r, p, kk, cc⟩ la lb = z) := ⟨_, rfl⟩
  rw [Hres.out]
  go_enter Try.func24, Try.ntmps24
  go_wp2_with fail
  refine wp_scope_ahead 0 rfl ?_
  intro J HJ
  go_wp2_with fail
  refine (rRight_calls ⟨nn, q, r, p, kk, cc⟩ a m d la Hm.out _ (HA.out.later Hb0.out)).mono ?_
  rintro e w1 ⟨rfl, hb⟩
  rw [Hoka.out]
  have Hb1 := Lib.hid (held_next Hb0.out hb)
  have HW1 := Lib.hid (HW.out.later hb HW.out.lt)
  clear hb
  obtain ⟨d0, d1, d2, d3, d4, d5⟩ := config_cells HW1.out
  simp only at d0 d1 d2 d3 d4 d5
  cases oka with
  | false =>
    obtain rfl : res = ([], 1) := Hres.out.symm.trans (if_neg fun h => by
      have := decide_eq_true h.1
      rw [show decide (rightOk ⟨nn, q, r, p, kk, cc⟩ la) = false from Hoka.out] at this
      cases this)
    go_wp2_with fail
    go_step3
    refine And.intro rfl (HJ.out _ _ ?_)
    go_wp2_with fail
    rw [jump_ret]
    go_ret2
    exact ⟨none, 0, by rfl, books_nil _ _ _ (fun _ => rfl), Hb1.out⟩
  | true =>
  go_wp2_with fail
  refine (rRight_calls ⟨nn, q, r, p, kk, cc⟩ b n f lb Hn.out _ (HB.out.later Hb1.out)).mono ?_
  rintro e w2 ⟨rfl, hb⟩
  rw [Hokb.out]
  have Hb2 := Lib.hid (held_next Hb1.out hb)
  have HW2 := Lib.hid (HW1.out.later hb HW1.out.lt)
  clear hb d0 d1 d2 d3 d4 d5
  cases okb with
  | false =>
    obtain rfl : res = ([], 1) := Hres.out.symm.trans (if_neg fun h => by
      have := decide_eq_true h.2
      rw [show decide (rightOk ⟨nn, q, r, p, kk, cc⟩ lb) = false from Hokb.out] at this
      cases this)
    go_wp2_with fail
    go_step3
    refine And.intro rfl (HJ.out _ _ ?_)
    go_wp2_with fail
    rw [jump_ret]
    go_ret2
    exact ⟨none, 0, by rfl, books_nil _ _ _ (fun _ => rfl), Hb2.out⟩
  | true =>
  have hRa := rightB_ok Hoka.out
  have hRb := rightB_ok Hokb.out
  have hl1 := hRa.2.1
  have hl2 := hRb.2.1
  have h16 := hRa.len
  have hnm : n = m := by have := Hm.out; have := Hn.out; omega
  have hcm : nn = (m : Int) := by have := Hm.out; simp only at hl1; omega
  have h16' : m ≤ 16 := by have := Hm.out; omega
  have HRes : Hid (res = if rightOk ⟨nn, q, r, p, kk, cc⟩ (joinLs la lb) then (joinLs la lb, 0) else ([], 7)) := Hres.out.symm.trans (if_pos ⟨hRa, hRb⟩)
  have HFa := Lib.hid hRa.fits
  have HFb := Lib.hid hRb.fits
  have Hll : Hid (la.length = lb.length) := by have := Hm.out; have := Hn.out; show _ = _; omega
  clear hRa hRb hl1 hl2 h16
  subst hnm
  subst hcm
  have hjl : (joinLs la lb).length = n := by rw [joinLs_length Hll.out, ← Hm.out]
  have Hjl := Lib.hid hjl; clear hjl
  have HJat : Hid (∀ k, k < n → at_ (joinLs la lb) k = joinRw (at_ la k) (at_ lb k)) := fun k hk => joinLs_at Hll.out (by have := Hm.out; omega)
  obtain ⟨L, HL⟩ : ∃ z, Hid (joinLs la lb = z) := ⟨_, rfl⟩
  rw [HL.out] at HRes Hjl HJat
  have HLs : Hid (∀ q, q < L.length → (at_ L q).out.length = n) := fun q hq => by
    have hqn : q < n := by rw [← Hjl.out]; exact hq
    have h2 := (HFa.out q (by have := Hm.out; omega)).1
    have h3 := (HFb.out q (by have := Hn.out; omega)).1
    rw [HJat.out q hqn]
    have h4 : (joinRw (at_ la q) (at_ lb q)).out.length = (at_ la q).out.length := joinL_length (by rw [h2, h3, Hll.out])
    rw [h4, h2, Hm.out]
  have hmk1 : ∀ w : World, (Instr.makeSlice 24 (.int .i64 (n : Int)) (.int .i64 (n : Int))).run Try.prog w = .ok (.slice (some ⟨w.heap.size, 0, none⟩) n n) (w.alloc (.cells (madeCells #[.int .i64 0, .int .i64 0, .slice none 0 0] (n * 3)) 49)) := by
    intro w
    obtain ⟨i0, hi, hz0, hz1, hz2⟩ := info_parts info_row
    have := run_make (P := Try.prog) w 24 49 i0 (.agg #[.int .i64 0, .int .i64 0, .slice none 0 0]) Try.underlying24 hi hz0 .i64 .i64 (n : Int) (n : Int) (by omega) (by omega) (by rw [hz2]; omega) (by omega)
    simpa [hz1, show (Value.agg #[.int .i64 0, .int .i64 0, .slice none 0 0]).cells = #[.int .i64 0, .int .i64 0, .slice none 0 0] from rfl] using this
  have hlw : w.heap.size < w2.heap.size := HW2.out.lt
  have HO1 : Hid (OwnBooks (w2.alloc (.cells (madeCells #[.int .i64 0, .int .i64 0, .slice none 0 0] (n * 3)) 49)) w2.heap.size (.slice (some ⟨w2.heap.size, 0, none⟩) n n) (part L 0)) := by
    rw [part_zero, Hjl.out]; exact own_bare w2 n (by unfold maxLen; omega)
  have Hbm : Hid (Below w2.heap.size w2 (w2.alloc (.cells (madeCells #[.int .i64 0, .int .i64 0, .slice none 0 0] (n * 3)) 49))) := below_box _ _
  obtain ⟨d0, d1, d2, d3, d4, d5⟩ := config_cells HW2.out
  simp only at d0 d1 d2 d3 d4 d5
  have hbm : n ≤ 9223372036854775807 := by omega
  go_wp2_with fail
  clear hmk1 d0 d1 d2 d3 d4 d5
  go_loopw [26] (fun x wr => ∃ k : Nat, k ≤ n ∧ x = .int .i64 k ∧ Hid (OwnBooks wr w2.heap.size (.slice (some ⟨w2.heap.size, 0, none⟩) n n) (part L k)) ∧ Hid (Below w2.heap.size w2 wr)) (fun x _ => n - (intOf x).toNat)
  case atStart => exact ⟨0, Nat.zero_le _, rfl, HO1.out, Hbm.out⟩
  case round =>
    clear HO1 Hbm
    obtain ⟨k, hk, rfl, HO, Hb⟩ := hrel
    by_cases hlt : k < n
    · have hkl : k < L.length := by have := Hjl.out; omega
      obtain ⟨b1, o1, A1, C1, rfl, hb1, x0, x1, x2, hN1⟩ := HA.out.at (k := k) (by have := Hm.out; omega)
      obtain ⟨b2, o2, A2, C2, rfl, hb2, y0, y1, y2, hN2⟩ := HB.out.at (k := k) (by have := Hn.out; omega)
      have hjk := HJat.out k hlt
      have ho1 := (HFa.out k (by have := Hm.out; omega)).1
      have ho2 := (HFb.out k (by have := Hn.out; omega)).1
      rw [← Hm.out] at ho1
      rw [← Hn.out] at ho2
      obtain ⟨r1, R1⟩ : ∃ z, Hid (at_ la k = z) := ⟨_, rfl⟩
      obtain ⟨r2, R2⟩ : ∃ z, Hid (at_ lb k = z) := ⟨_, rfl⟩
      rw [R1.out] at x0 x1 x2 hN1 hjk ho1
      rw [R2.out] at y0 y1 y2 hN2 hjk ho2
      rw [ho1] at x2 hN1
      rw [ho2] at y2 hN2
      obtain ⟨I, HI⟩ : ∃ z, Hid (max r1.inc r2.inc = z) := ⟨_, rfl⟩
      obtain ⟨U, HU⟩ : ∃ z, Hid (max r1.use r2.use = z) := ⟨_, rfl⟩
      obtain ⟨T, HT⟩ : ∃ z, Hid (joinL r1.out r2.out = z) := ⟨_, rfl⟩
      have hTn : T.length = n := by rw [← HT.out, joinL_length (by rw [ho1, ho2]), ho1]
      have HJk : Hid (at_ L k = ⟨I, U, T⟩) := by rw [hjk, ← HI.out, ← HU.out, ← HT.out]; exact rfl
      have Hbw : Hid (Below w.heap.size w wr) := held_next Hb2.out Hb.out
      have HN1 := Lib.hid (hN1.later Hbw.out)
      have HN2 := Lib.hid (hN2.later Hbw.out)
      have Ho1 := Lib.hid ho1.symm
      have Ho2 := Lib.hid ho2.symm
      have KP : Hid (∀ w', Below w.heap.size w w' → Below w.heap.size w w' ∧ (w'.cell? ⟨b1, o1 + k * 3, none⟩ = some (.int .i64 r1.inc) ∧ w'.cell? ⟨b1, o1 + k * 3 + 1, none⟩ = some (.int .i64 r1.use) ∧ w'.cell? ⟨b1, o1 + k * 3 + 2, none⟩ = some (.slice A1 n C1)) ∧
          (w'.cell? ⟨b2, o2 + k * 3, none⟩ = some (.int .i64 r2.inc) ∧ w'.cell? ⟨b2, o2 + k * 3 + 1, none⟩ = some (.int .i64 r2.use) ∧ w'.cell? ⟨b2, o2 + k * 3 + 2, none⟩ = some (.slice A2 n C2))) :=
        fun w' h => ⟨h, ⟨cell_later h x0, cell_later h x1, cell_later h x2⟩, cell_later h y0, cell_later h y1, cell_later h y2⟩
      have OM : Hid (Calls Try.prog 43 #[rowV r1.inc r1.use (.slice A1 n C1), rowV r2.inc r2.use (.slice A2 n C2)] wr.drew (JoinedO wr.drew n I U T)) := by
        rw [← HI.out, ← HU.out, ← HT.out]
        exact join_own A1 n C1 A2 C2 r1.inc r1.use r2.inc r2.use r1.out r2.out Ho1.out Ho2.out wr.drew (HN1.out.later (Below.refl _ _).drew) (HN2.out.later (Below.refl _ _).drew) (by omega)
      have k0 : (0 : Int) ≤ (k : Int) := by omega
      have k1 : (k : Int) < (n : Int) := by omega
      have hbsz := Hb.out.size
      have hbsw := Hbw.out.size
      have HTn := Lib.hid hTn
      clear x0 x1 x2 y0 y1 y2 hN1 hN2 hjk ho1 ho2 hTn
      go_wp2_with fail
      go_region_held3 (fun w' => Below w.heap.size w w' ∧ (w'.cell? ⟨b1, o1 + k * 3, none⟩ = some (.int .i64 r1.inc) ∧ w'.cell? ⟨b1, o1 + k * 3 + 1, none⟩ = some (.int .i64 r1.use) ∧ w'.cell? ⟨b1, o1 + k * 3 + 2, none⟩ = some (.slice A1 n C1)) ∧
          (w'.cell? ⟨b2, o2 + k * 3, none⟩ = some (.int .i64 r2.inc) ∧ w'.cell? ⟨b2, o2 + k * 3 + 1, none⟩ = some (.int .i64 r2.use) ∧ w'.cell? ⟨b2, o2 + k * 3 + 2, none⟩ = some (.slice A2 n C2)))
        (first | exact KP.out _ Hbw.out.drew | exact KP.out _ hS1 | exact KP.out _ (((hS1.setCell hB0 _).setCell hB0 _).setCell hB0 _))
        (first | (go_at_call 43; refine (OM.out).mono ?_; rintro ee w3 ⟨A3, C3, rfl, hO3, hb3⟩; have hb4 := held_next (Below.refl wr.heap.size wr).drew hb3; have hS1 := held_next Hbw.out hb4; obtain ⟨hBa, hBb, ⟨y0, y1, y2⟩, ⟨x0, x1, x2, z0, z1, z2⟩, hO4⟩ := part_row (u := .slice A3 n C3) HO.out hb4 hbsz hkl (Nat.le_refl _) (by rw [HJk.out]; show World.ownsRow _ _ _ _ _ T.length _; rw [HTn.out]; exact hO3) ⟨A3, C3, by rw [HJk.out]; show _ = Value.slice _ T.length _; rw [HTn.out]⟩; rw [HJk.out] at hO4; have HO4 := Lib.hid hO4; have Hb4 := Lib.hid (Hb.out.trans (hb4.mono hbsz)); have hB0 : w.heap.size ≤ w2.heap.size := (by omega); have hlt3 : w2.heap.size < w3.heap.size := (by have := hb4.size; omega); clear hO3 hb3 hb4 hO4) | fail)
      all_goals go_wp2_with fail
      all_goals go_roundw
      case rel => exact ⟨k + 1, by omega, by go_num, HO4.out, ((Hb4.out.setCell (p := ⟨w2.heap.size, k * 3, none⟩) (Nat.le_refl _) _).setCell (p := ⟨w2.heap.size, k * 3 + 1, none⟩) (Nat.le_refl _) _).setCell (p := ⟨w2.heap.size, k * 3 + 2, none⟩) (Nat.le_refl _) _⟩
      case measure => simp [intOf]; omega
    · have hkm : k = n := by omega
      have hO := HO.out
      rw [hkm, ← Hjl.out, part_all] at hO
      obtain ⟨A, C, hv, hBk⟩ := hO.books (by rw [Hjl.out]; omega) (fun q hq => by rw [HLs.out q hq]; omega)
      simp only [Value.slice.injEq] at hv
      obtain ⟨rfl, _, rfl⟩ := hv
      rw [Hjl.out] at hBk
      have HBk := Lib.hid hBk
      have Hkm := Lib.hid hkm
      clear hkm hO hBk
      obtain ⟨okj, Hokj⟩ : ∃ z, Hid (rightB ⟨n, q, r, p, kk, cc⟩ L = z) := ⟨_, rfl⟩
      obtain ⟨d0, d1, d2, d3, d4, d5⟩ := config_cells (HW2.out.later Hb.out HW2.out.lt)
      simp only at d0 d1 d2 d3 d4 d5
      go_wp2_with fail
      refine (rRight_calls ⟨n, q, r, p, kk, cc⟩ (some ⟨w2.heap.size, 0, none⟩) n n L Hjl.out.symm _ HBk.out).mono ?_
      rintro e w5 ⟨rfl, hb⟩
      rw [Hokj.out]
      have Hb5 := Lib.hid (held_next Hb2.out (held_next Hb.out hb))
      have HBk5 := Lib.hid (HBk.out.later hb)
      clear hb d0 d1 d2 d3 d4 d5
      cases okj with
      | false =>
        obtain rfl : res = ([], 7) := HRes.out.trans (if_neg fun h => by
          have := decide_eq_true h
          rw [show decide (rightOk ⟨n, q, r, p, kk, cc⟩ L) = false from Hokj.out] at this
          cases this)
        go_wp2_with fail
        go_step3
        refine And.intro rfl (HJ.out _ _ ?_)
        go_wp2_with fail
        rw [jump_ret]
        go_ret2
        exact ⟨none, 0, by rfl, books_nil _ _ _ (fun _ => rfl), Hb5.out⟩
      | true =>
        obtain rfl : res = (L, 0) := HRes.out.trans (if_pos (rightB_ok Hokj.out))
        go_wp2_with fail
        rw [jump_ret]
        go_ret2
        exact ⟨_, _, by rw [Hjl.out]; rfl, by rw [Hjl.out]; exact HBk5.out, Hb5.out⟩
end Go.Proofs.Ytlhfggnnikmikaa
