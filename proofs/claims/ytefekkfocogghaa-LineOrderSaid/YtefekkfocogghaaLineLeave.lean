/- Package line, walked: Leave. No law is proved here. -/
import Derived.Test.YtefekkfocogghaaLineGrow
import Derived.Test.YtefekkfocogghaaRqCells
import Derived.BigRegion
namespace Go.Proofs.Ytefekkfocogghaa
open Go.RowKit

attribute [local go_sem ↓] run_fine
set_option maxRecDepth 100000 in
set_option maxHeartbeats 4000000 in
theorem lLeave_calls (a : Option Addr) (m cp : Nat) (l : List Rq) (hm : m = l.length) (hsmall : m ≤ 1000) (hc : m ≤ cp) (w : World) (hB : Line w (.slice a m cp) l) :
    Calls Try.prog 12 #[.slice a m cp] w (LeftQ w l) := by
  have HW := Lib.hid (Whole.made w 28 (rqCells ⟨0, 0, 0⟩))
  have Hb0 := Lib.hid (below_box w (.cells (rqCells ⟨0, 0, 0⟩) 28))
  obtain ⟨w0, Hw0⟩ : ∃ w0, Hid (w.alloc (.cells (rqCells ⟨0, 0, 0⟩) 28) = w0) := ⟨_, rfl⟩
  by_cases h0 : m = 0
  · subst h0
    have hl : l = [] := List.eq_nil_of_length_eq_zero hm.symm
    subst hl
    clear hB hm hc hsmall
    rw [Hw0.out] at HW Hb0
    have z0 := HW.out.cell 0
    have z1 := HW.out.cell 1
    have z2 := HW.out.cell 2
    have y0 := HW.out.free 0
    have y1 := HW.out.free 1
    have y2 := HW.out.free 2
    have hlt := HW.out.lt
    go_enter Try.func12, Try.ntmps12
    go_wp2
    try rw [Hw0.out]
    refine bodyPost_ret (v := .tuple #[rqV ⟨0, 0, 0⟩, .slice none 0 0, .bool false]) (by simp [results, Try.results12, go_sem, z0, z1, z2]) rfl ⟨none, 0, Nat.le_refl _, rfl, Line.nil _ _ _ (fun _ => rfl), ?_⟩
    exact Hb0.out
  · obtain ⟨b, off, rfl, c0, c1, c2⟩ := hB.at (i := 0) (by omega)
    obtain ⟨x, Hx⟩ : ∃ z, Hid (rqAt l 0 = z) := ⟨_, rfl⟩
    rw [Hx.out, Nat.zero_mul, Nat.add_zero] at c0 c1 c2
    have d0 := cell_later Hb0.out c0
    have d1 := cell_later Hb0.out c1
    have d2 := cell_later Hb0.out c2
    have hrest := hB.rest hm (by omega)
    have hlen : l.tail.length = m - 1 := by rw [List.length_tail, ← hm]
    obtain ⟨t, u, v⟩ := x
    simp only at c0 c1 c2 d0 d1 d2
    rw [Hw0.out] at HW Hb0 d0 d1 d2
    have Hrest := Lib.hid hrest; clear hrest
    have Hlen := Lib.hid hlen; clear hlen
    have Hm := Lib.hid hm; clear hm
    have hlt := HW.out.lt
    have y0 := HW.out.free 0
    have y1 := HW.out.free 1
    have y2 := HW.out.free 2
    have z0 := HW.out.cell 0
    have z1 := HW.out.cell 1
    have z2 := HW.out.cell 2
    clear c0 c1 c2 hB
    have k1 : (1 : Int) ≤ (m : Int) := by omega
    have k2 : (0 : Int) < (m : Int) := by omega
    obtain ⟨B, hBB⟩ : ∃ B, (if cp = 1 then some (⟨b, off, none⟩ : Addr) else some ⟨b, off + 3, none⟩) = B := ⟨_, rfl⟩
    have HrB : Hid (Line w (.slice B (m - 1) (cp - 1)) l.tail) := by
      by_cases h1 : cp = 1
      · rw [if_pos h1] at hBB
        have hm1 : m - 1 = 0 := by omega
        have ht : l.tail = [] := List.eq_nil_of_length_eq_zero (by rw [Hlen.out]; exact hm1)
        rw [ht, hm1]
        exact Line.nil _ _ _ (fun h => by rw [← hBB] at h; cases h)
      · rw [if_neg h1] at hBB
        rw [← hBB]
        exact Hrest.out
    obtain ⟨A1, C1, w5, hrun1, hC1, hL1, hb1, hat1⟩ := run_append_rq (w := w0.drew) (A := some ⟨b, off, none⟩) (n := 0) (l := []) (k := l.tail) (Line.nil _ _ _ (fun h => by cases h)) rfl (B := B) (m := m - 1) (c := cp - 1) ((HrB.out.later Hb0.out.drew)) (Hlen.out.symm) (by rw [Hlen.out]; simp; omega)
    have hb2 : Below w0.heap.size w0 w5 := held_next ((Below.refl _ _).drew) hb1
    obtain ⟨hfine1, happV1, happW1⟩ := fine_of hrun1
    clear hrun1
    simp only [Nat.zero_add, List.nil_append] at happV1 hC1 hL1
    have HL1 := Lib.hid hL1; clear hL1
    have Hat := Lib.hid hat1; clear hat1
    have HC1 := Lib.hid hC1; clear hC1
    have Hb1 := Lib.hid hb2; clear hb1 hb2
    have HW5 := Lib.hid (HW.out.later Hb1.out hlt)
    have hlt5 := HW5.out.lt
    clear y0 y1 y2 z0 z1 z2
    have g0 := cell_later Hb1.out d0
    have g1 := cell_later Hb1.out d1
    have g2 := cell_later Hb1.out d2
    have y0 := HW5.out.free 0
    have y1 := HW5.out.free 1
    have y2 := HW5.out.free 2
    have z0 : w5.cell? ⟨w.heap.size, 0, none⟩ = some (.int .i64 0) := HW5.out.cell 0
    have z1 : w5.cell? ⟨w.heap.size, 1, none⟩ = some (.int .i64 0) := HW5.out.cell 1
    have z2 : w5.cell? ⟨w.heap.size, 2, none⟩ = some (.int .i64 0) := HW5.out.cell 2
    have HW6 := Lib.hid (((HW5.out.set 0 (.int .i64 t)).set 1 (.int .i64 u)).set 2 (.int .i64 v))
    have Hb5 := Lib.hid (held_next Hb0.out Hb1.out)
    have Hb6 := Lib.hid (((Hb5.out.setCell (p := ⟨w.heap.size, 0, none⟩) (Nat.le_refl _) (.int .i64 t)).setCell (p := ⟨w.heap.size, 1, none⟩) (Nat.le_refl _) (.int .i64 u)).setCell (p := ⟨w.heap.size, 2, none⟩) (Nat.le_refl _) (.int .i64 v))
    go_enter Try.func12, Try.ntmps12
    go_wp2_with fail
    try rw [Hw0.out]
    go_region
    go_wp2
    have HL6 : Hid (Line (((w5.setCell ⟨w.heap.size, 0, none⟩ (.int .i64 t)).setCell ⟨w.heap.size, 1, none⟩ (.int .i64 u)).setCell ⟨w.heap.size, 2, none⟩ (.int .i64 v)) (.slice A1 (m - 1) C1) l.tail) := by
      by_cases h1 : 0 < m - 1
      · have hap : ∀ ad, A1 = some ad → ad.block ≠ w.heap.size := fun ad had => by
          have h2 := Hat.out h1 ad had
          have h3 : w0.drew.heap.size = w0.heap.size := rfl
          omega
        have hL : Line w5 (.slice A1 (m - 1) C1) l.tail := HL1.out
        unfold Line at hL
        rw [Hlen.out] at hL
        have h4 := ((Elems.other hL (p := ⟨w.heap.size, 0, none⟩) hap (.int .i64 t)).other (p := ⟨w.heap.size, 1, none⟩) hap (.int .i64 u)).other (p := ⟨w.heap.size, 2, none⟩) hap (.int .i64 v)
        show Elems _ _ _ l.tail.length _
        rw [Hlen.out]
        exact h4
      · have hm1 : m - 1 = 0 := by omega
        have ht : l.tail = [] := List.eq_nil_of_length_eq_zero (by rw [Hlen.out]; exact hm1)
        have hL : Line w5 (.slice A1 (m - 1) C1) l.tail := HL1.out
        rw [ht, hm1] at hL ⊢
        refine Line.nil _ _ _ (fun h => ?_)
        obtain ⟨_, ⟨a0, c0, hv, h0, _⟩ | ⟨b', off', c0, hv, hn, _⟩⟩ := hL
        · simp only [Value.slice.injEq] at hv
          rw [hv.2.2]
          exact h0 (by rw [← hv.1]; exact h)
        · simp only [Value.slice.injEq] at hv
          rw [h] at hv
          cases hv.1
    have v0 := HW6.out.cell 0
    have v1 := HW6.out.cell 1
    have v2 := HW6.out.cell 2
    refine bodyPost_ret (v := .tuple #[rqV ⟨t, u, v⟩, .slice A1 (m - 1) C1, .bool true]) (by simp [results, Try.results12, go_sem, z0, z1, z2]) rfl ⟨A1, C1, by have := HC1.out; have := Hm.out; omega, ?_, ?_, Hb6.out⟩
    · rw [Hx.out, ← Hm.out, decide_eq_true (show 0 < m by omega)]
    · rw [← Hm.out]; exact HL6.out
end Go.Proofs.Ytefekkfocogghaa
