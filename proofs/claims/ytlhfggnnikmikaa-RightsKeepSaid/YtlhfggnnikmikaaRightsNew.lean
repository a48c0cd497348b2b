/- New: books without anything. No law is proved here. -/
import Derived.Test.YtlhfggnnikmikaaRightsOwn
import Derived.Test.YtlhfggnnikmikaaRightsMay
namespace Go.Proofs.Ytlhfggnnikmikaa
open Go.RowKit

set_option maxRecDepth 100000 in
set_option maxHeartbeats 8000000 in
theorem rNew_calls (c : Cf) (w : World) : Calls Try.prog 16 #[cfV c] w (Made w (newL c)) := by
  have HW := Lib.hid (Whole.made w 23 (cfCells c))
  have Hb0 := Lib.hid (below_box w (.cells (cfCells c) 23))
  obtain ⟨n, q, r, p, kk, cc⟩ := c
  obtain ⟨ok, Hok⟩ : ∃ z, Hid (cfB ⟨n, q, r, p, kk, cc⟩ = z) := ⟨_, rfl⟩
  obtain ⟨L, HL⟩ : ∃ L, Hid (newL ⟨n, q, r, p, kk, cc⟩ = L) := ⟨_, rfl⟩
  rw [HL.out]
  go_enter Try.func16, Try.ntmps16
  go_wp2_with fail
  refine (rMay_calls ⟨n, q, r, p, kk, cc⟩ _).mono ?_
  rintro e w1 ⟨rfl, hb⟩
  rw [Hok.out]
  have Hb1 := Lib.hid (held_next Hb0.out hb)
  have HW1 := Lib.hid (HW.out.later hb HW.out.lt)
  clear hb
  cases ok with
  | false =>
    obtain rfl : L = [] := HL.out.symm.trans (if_neg fun h => by
      have := cfB_yes h
      rw [Hok.out] at this
      cases this)
    go_wp2_with fail
    go_ret
    exact ⟨none, 0, by rfl, books_nil _ _ _ (fun _ => rfl), Hb1.out⟩
  | true =>
    have hok := cfB_ok Hok.out
    obtain ⟨m, hmn⟩ : ∃ m : Nat, n = (m : Int) := ⟨n.toNat, by have := hok.1; simp only at this; omega⟩
    subst hmn
    have h16 : m ≤ 16 := by have := hok.2.1; simp only at this; omega
    have hl : L = List.replicate m (zeroRow m) := by
      rw [← HL.out]
      unfold newL
      rw [if_pos hok]; rfl
    have Hll : Hid (L.length = m) := by rw [hl]; exact List.length_replicate
    have Hat : Hid (∀ k, k < m → at_ L k = zeroRow m) := fun k hk => by rw [hl]; simp [at_, hk]
    have Hhl := Lib.hid hl
    clear hok hl
    have hmk1 : ∀ w : World, (Instr.makeSlice 24 (.int .i64 (m : Int)) (.int .i64 (m : Int))).run Try.prog w = .ok (.slice (some ⟨w.heap.size, 0, none⟩) m m) (w.alloc (.cells (madeCells #[.int .i64 0, .int .i64 0, .slice none 0 0] (m * 3)) 49)) := by
      intro w
      obtain ⟨i0, hi, hz0, hz1, hz2⟩ := info_parts info_row
      have := run_make (P := Try.prog) w 24 49 i0 (.agg #[.int .i64 0, .int .i64 0, .slice none 0 0]) Try.underlying24 hi hz0 .i64 .i64 (m : Int) (m : Int) (by omega) (by omega) (by rw [hz2]; omega) (by omega)
      simpa [hz1, show (Value.agg #[.int .i64 0, .int .i64 0, .slice none 0 0]).cells = #[.int .i64 0, .int .i64 0, .slice none 0 0] from rfl] using this
    have hmk : ∀ w : World, (Instr.makeSlice 47 (.int .i64 (m : Int)) (.int .i64 (m : Int))).run Try.prog w = .ok (.slice (some ⟨w.heap.size, 0, none⟩) m m) (w.alloc (.cells (madeCells #[.int .i64 0] m) 2)) := by
      intro w
      obtain ⟨i0, hi, hz0, hz1, hz2⟩ := info_parts info_int64
      have := run_make (P := Try.prog) w 47 2 i0 (.int .i64 0) Try.underlying47 hi hz0 .i64 .i64 (m : Int) (m : Int) (by omega) (by omega) (by rw [hz2]; omega) (by omega)
      simpa [hz1, show (Value.int .i64 0).cells = #[.int .i64 0] from rfl] using this
    have d0 : w1.cell? ⟨w.heap.size, 0, none⟩ = some (.int .i64 (m : Int)) := HW1.out.cell 0
    have hlw : w.heap.size < w1.heap.size := HW1.out.lt
    have HO1 : Hid (OwnBooks (w1.alloc (.cells (madeCells #[.int .i64 0, .int .i64 0, .slice none 0 0] (m * 3)) 49)) w1.heap.size (.slice (some ⟨w1.heap.size, 0, none⟩) m m) (part L 0)) := by
      rw [part_zero, Hll.out]; exact own_bare w1 m (by unfold maxLen; omega)
    have Hb2 : Hid (Below w1.heap.size w1 (w1.alloc (.cells (madeCells #[.int .i64 0, .int .i64 0, .slice none 0 0] (m * 3)) 49))) := below_box _ _
    go_wp2_with fail
    clear d0
    go_loopw [13] (fun x wr => ∃ k : Nat, k ≤ m ∧ x = .int .i64 k ∧ Hid (OwnBooks wr w1.heap.size (.slice (some ⟨w1.heap.size, 0, none⟩) m m) (part L k)) ∧ Hid (Below w1.heap.size w1 wr)) (fun x _ => m - (intOf x).toNat)
    case atStart => exact ⟨0, Nat.zero_le _, rfl, HO1.out, Hb2.out⟩
    case round =>
      obtain ⟨k, hk, rfl, HO, Hb⟩ := hrel
      by_cases hlt : k < m
      · obtain ⟨g, hG⟩ := HO.out
        have hkl : k < L.length := by rw [Hll.out]; exact hlt
        have hzr := Hat.out k hlt
        have hzl : (zeroRow m).out.length = m := by simp [zeroRow]
        have hpl : (part L k).length = m := by rw [part_length (by omega), Hll.out]
        have d0 : wr.cell? ⟨w.heap.size, 0, none⟩ = some (.int .i64 (m : Int)) := (HW1.out.later Hb.out HW1.out.lt).cell 0
        have hlw2 : w.heap.size < wr.heap.size := by have := Hb.out.size; omega
        have q1 : (wr.alloc (.cells (madeCells #[.int .i64 0] m) 2)).ownsRow wr.heap.size 2 1 (.slice (some ⟨wr.heap.size, 0, none⟩) m m) m ((zeroRow m).out.map (Value.int .i64)) := by
          have := own_whole (n := m) (sz := 1) (f := fun q _ => .int .i64 ((zeroRow m).out[q]?.getD 0)) (Whole.made wr 2 (madeCells #[.int .i64 0] m)) (Nat.le_refl _) (by rw [made_flat]; have := flat_one (zeroRow m).out; rw [show (zeroRow m).out.length = m by simp [zeroRow]] at this; exact this) (by unfold maxLen; omega)
          have e := flat_one (zeroRow m).out
          rw [show (zeroRow m).out.length = m by simp [zeroRow]] at e
          rw [e]; exact this
        have hb3 : Below wr.heap.size wr (wr.alloc (.cells (madeCells #[.int .i64 0] m) 2)) := below_box _ _
        obtain ⟨bb, cap, hv, hbb, hblt, hfz, hcs, hG2⟩ := ownG_list (r := zeroRow m) hG hb3 Hb.out.size (by rw [hzl]; exact q1) ⟨_, _, by rw [hzl]⟩ (k := k) (by rw [hpl]; exact hlt) (by rw [part_at hkl]; rfl) (by rw [part_at hkl]; rfl)
        simp only [Value.slice.injEq, Option.some.injEq, Addr.mk.injEq] at hv
        have hbeq := hv.1.1
        clear hv
        subst hbeq
        rw [← hzr, part_set hkl] at hG2
        have HO2 : Hid (OwnBooks ((wr.alloc (.cells (madeCells #[.int .i64 0] m) 2)).setCell ⟨w1.heap.size, k * 3 + 2, none⟩ (.slice (some ⟨wr.heap.size, 0, none⟩) m m)) w1.heap.size (.slice (some ⟨w1.heap.size, 0, none⟩) m m) (part L (k + 1))) := ⟨_, hG2⟩
        have Hbn : Hid (Below w1.heap.size w1 ((wr.alloc (.cells (madeCells #[.int .i64 0] m) 2)).setCell ⟨w1.heap.size, k * 3 + 2, none⟩ (.slice (some ⟨wr.heap.size, 0, none⟩) m m))) := (Hb.out.trans (hb3.mono Hb.out.size)).setCell (p := ⟨w1.heap.size, k * 3 + 2, none⟩) (Nat.le_refl _) _
        have z2 := hcs k 2 (by rw [hpl]; exact hlt) (by decide)
        have y2 := hfz (k * 3 + 2)
        have hsp : (wr.alloc (.cells (madeCells #[.int .i64 0] m) 2)).setCell ⟨w1.heap.size, k * 3 + 2, none⟩ (.slice (some ⟨wr.heap.size, 0, none⟩) m m) = (wr.setCell ⟨w1.heap.size, k * 3 + 2, none⟩ (.slice (some ⟨wr.heap.size, 0, none⟩) m m)).alloc (.cells (madeCells #[.int .i64 0] m) 2) := World.setCell_alloc_past _ _ _ _ hblt
        rw [hsp] at HO2 Hbn
        clear hG hG2 hcs hfz q1 hb3 hzr hzl hpl hsp
        have k0 : (0 : Int) ≤ (k : Int) := by omega
        have k1 : (k : Int) < (m : Int) := by omega
        have hbm : m ≤ 9223372036854775807 := by omega
        go_wp2
        go_roundw
        case rel => exact ⟨k + 1, by omega, by go_num, HO2.out, Hbn.out⟩
        case measure => simp [intOf]; omega
      · have hkm : k = m := by omega
        have hO := HO.out
        rw [hkm, ← Hll.out, part_all, Hll.out] at hO
        obtain ⟨A, C, hv, hBk⟩ := hO.books (by rw [Hll.out]; omega) (fun q hq => by
          rw [Hat.out q (by rw [← Hll.out]; exact hq)]
          simp [zeroRow]; omega)
        rw [Hll.out] at hv
        simp only [Value.slice.injEq] at hv
        obtain ⟨rfl, _, rfl⟩ := hv
        have HBk := Lib.hid hBk
        have Hkm := Lib.hid hkm
        clear hkm hO hBk
        go_wp2
        go_ret
        exact ⟨_, _, by rw [Hll.out]; rfl, HBk.out, held_next Hb1.out Hb.out⟩
end Go.Proofs.Ytlhfggnnikmikaa
