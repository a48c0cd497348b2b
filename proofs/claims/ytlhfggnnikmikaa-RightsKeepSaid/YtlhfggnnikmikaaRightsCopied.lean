/- Books copied. No law is proved here. -/
import Derived.Test.YtlhfggnnikmikaaRightsOwn
import Derived.Test.YtlhfggnnikmikaaRefRightsNew
import Derived.Deep.RegionHeld3
import Derived.Laws.Cover3
namespace Go.Proofs.Ytlhfggnnikmikaa
open Go.RowKit
attribute [local go_sem ↓] run_fine

/-- numbers of the call's own -/
def Cloned (w : World) (n : Nat) (la : List Int) (e : Ending) (w' : World) : Prop := ∃ A C, e = .returned (.slice A n C) ∧ w'.ownsRow w.heap.size 2 1 (.slice A n C) n (la.map (Value.int .i64)) ∧ Below w.heap.size w w'

set_option maxRecDepth 100000 in
set_option maxHeartbeats 4000000 in
theorem clone_calls (A : Option Addr) (n C : Nat) (la : List Int) (hn : n = la.length) (hpos : 0 < n) (hle : n ≤ 1000) (w : World) (hN : Nums w (.slice A n C) la) : Calls Try.prog 54 #[.slice A n C] w (Cloned w n la) := by
  obtain ⟨b, off, rfl, hbl, _⟩ := hN.at (i := 0) (by omega)
  obtain ⟨i0, hi, hz0, hz1, hz2⟩ := info_parts info_int64
  have hb1 : Below w.heap.size w (w.alloc (.cells #[] 2)) := below_box w _
  obtain ⟨v1, w1, hrun1, q1, q2, q3⟩ := run_append_elems (P := Try.prog) (w := w.alloc (.cells #[] 2)) 47 47 w.heap.size 2 i0 _ 1 8 Try.underlying47 hi hz0 hz1 hz2 rfl (by decide)
    (.slice (some ⟨w.heap.size, 0, none⟩) 0 0) 0 (fun _ _ => .bool false) (own_whole (cs := #[]) (Whole.madeAt _ _ _ _ rfl) (Nat.le_refl _) rfl (by decide)) (some ⟨b, off, none⟩) la.length C (fun q _ => .int .i64 (la[q]?.getD 0)) (by have h := hN.later hb1; unfold Nums at h; rw [← hn] at h ⊢; exact h)
    (fun _ _ _ _ => rfl) (by unfold maxLen; omega) (by omega) hb1.size
  simp only [Nat.zero_add, Nat.not_lt_zero, if_false, Nat.sub_zero] at q1
  rw [← flat_one] at q1
  obtain ⟨A1, C1, rfl, _⟩ := nums_of_own q1 rfl (by omega)
  rw [← hn] at hrun1 q1
  have hf1 : Fine Try.prog (w.alloc (.cells #[] 2)) #[47, 47] 47 #[.slice (some ⟨w.heap.size, 0, none⟩) 0 0, .slice (some ⟨b, off, none⟩) n C] := ⟨_, _, hrun1⟩
  have hv1 : appV Try.prog (w.alloc (.cells #[] 2)) #[47, 47] 47 #[.slice (some ⟨w.heap.size, 0, none⟩) 0 0, .slice (some ⟨b, off, none⟩) n C] = .slice A1 n C1 := by unfold appV; rw [hrun1]; rfl
  have hw1 : appW Try.prog (w.alloc (.cells #[] 2)) #[47, 47] 47 #[.slice (some ⟨w.heap.size, 0, none⟩) 0 0, .slice (some ⟨b, off, none⟩) n C] = w1 := by unfold appW; rw [hrun1]; rfl
  have Q1 := Lib.hid q1
  have Hb := Lib.hid (hb1.trans q2)
  clear hrun1 q1 q2 q3 hb1 hN hi hz0 hz1 hz2 hn
  go_enter Try.func54, Try.ntmps54
  have heq : ∀ w : World, (binOp .eql 47 (.slice (some ⟨b, off, none⟩) n C) (.slice none 0 0)).run Try.prog w = .ok (.bool false) w := by
    intro w
    simp only [binOp]
    simp [run_equal_slice_nil w 47 2 (some ⟨b, off, none⟩) n C Try.underlying47]
  go_wp2
  go_ret
  exact ⟨A1, C1, by rfl, Q1.out, Hb.out⟩

set_option maxRecDepth 100000 in
set_option maxHeartbeats 8000000 in
theorem copied_calls (a : Option Addr) (m d : Nat) (l : List Rw) (hm : m = l.length) (h4 : m ≤ 1000) (hlen : ∀ k, k < l.length → 0 < (at_ l k).out.length ∧ (at_ l k).out.length ≤ 1000) (w : World) (hA : Books w (.slice a m d) l) :
    Calls Try.prog 45 #[.slice a m d] w (Copied w l) := by
  have HA := Lib.hid hA; clear hA
  have Hm := Lib.hid hm; clear hm
  have HL := Lib.hid hlen; clear hlen
  have hbm : m ≤ 9223372036854775807 := by omega
  have hmk1 : ∀ w : World, (Instr.makeSlice 24 (.int .i64 (m : Int)) (.int .i64 (m : Int))).run Try.prog w = .ok (.slice (some ⟨w.heap.size, 0, none⟩) m m) (w.alloc (.cells (madeCells #[.int .i64 0, .int .i64 0, .slice none 0 0] (m * 3)) 49)) := by
    intro w
    obtain ⟨i0, hi, hz0, hz1, hz2⟩ := info_parts info_row
    have := run_make (P := Try.prog) w 24 49 i0 (.agg #[.int .i64 0, .int .i64 0, .slice none 0 0]) Try.underlying24 hi hz0 .i64 .i64 (m : Int) (m : Int) (by omega) (by omega) (by rw [hz2]; omega) (by omega)
    simpa [hz1, show (Value.agg #[.int .i64 0, .int .i64 0, .slice none 0 0]).cells = #[.int .i64 0, .int .i64 0, .slice none 0 0] from rfl] using this
  have HO1 : Hid (OwnBooks (w.alloc (.cells (madeCells #[.int .i64 0, .int .i64 0, .slice none 0 0] (m * 3)) 49)) w.heap.size (.slice (some ⟨w.heap.size, 0, none⟩) m m) (part l 0)) := by
    rw [part_zero, ← Hm.out]; exact own_bare w m (by unfold maxLen; omega)
  have Hb1 : Hid (Below w.heap.size w (w.alloc (.cells (madeCells #[.int .i64 0, .int .i64 0, .slice none 0 0] (m * 3)) 49))) := below_box _ _
  go_enter Try.func45, Try.ntmps45
  go_wp2_with fail
  clear hmk1
  go_loopw [11] (fun x wr => ∃ k : Nat, k ≤ m ∧ x = .int .i64 k ∧ Hid (OwnBooks wr w.heap.size (.slice (some ⟨w.heap.size, 0, none⟩) m m) (part l k)) ∧ Hid (Below w.heap.size w wr)) (fun x _ => m - (intOf x).toNat)
  case atStart => exact ⟨0, Nat.zero_le _, rfl, HO1.out, Hb1.out⟩
  case round =>
    clear HO1 Hb1
    obtain ⟨k, hk, rfl, HO, Hb⟩ := hrel
    by_cases hlt : k < m
    · have hkl : k < l.length := by have := Hm.out; omega
      obtain ⟨b, off, A, C, rfl, hbw, c0, c1, c2, hN⟩ := HA.out.at (k := k) hkl
      have hout := HL.out k hkl
      obtain ⟨r, Hr⟩ : ∃ z, Hid (at_ l k = z) := ⟨_, rfl⟩
      obtain ⟨lm, Hlm⟩ : ∃ z, Hid (z = r.out.length) := ⟨_, rfl⟩
      rw [Hr.out] at c0 c1 c2 hN hout
      rw [← Hlm.out] at c2 hN hout
      have HN := Lib.hid (hN.later Hb.out); clear hN
      have e0 := cell_later Hb.out c0
      have e1 := cell_later Hb.out c1
      have e2 := cell_later Hb.out c2
      clear c0 c1 c2
      have k0 : (0 : Int) ≤ (k : Int) := by omega
      have k1 : (k : Int) < (m : Int) := by omega
      have hbsz := Hb.out.size
      have hbr : b < wr.heap.size := by omega
      have HWb := Lib.hid (Whole.made wr 49 #[.int .i64 r.inc, .int .i64 r.use, .slice A lm C])
      have KP : Hid (∀ w', Whole w' wr.heap.size 49 #[.int .i64 r.inc, .int .i64 r.use, .slice A lm C] → w'.cell? ⟨wr.heap.size, 0, none⟩ = some (.int .i64 r.inc) ∧ w'.cell? ⟨wr.heap.size, 1, none⟩ = some (.int .i64 r.use) ∧ w'.cell? ⟨wr.heap.size, 2, none⟩ = some (.slice A lm C)) :=
        fun w' h => row_cells h
      have hbx := below_box wr (.cells #[.int .i64 r.inc, .int .i64 r.use, .slice A lm C] 49)
      have OC : Hid (Calls Try.prog 54 #[.slice A lm C] (wr.alloc (.cells #[.int .i64 r.inc, .int .i64 r.use, .slice A lm C] 49)).drew (Cloned (wr.alloc (.cells #[.int .i64 r.inc, .int .i64 r.use, .slice A lm C] 49)).drew lm r.out)) :=
        clone_calls A lm C r.out Hlm.out hout.1 hout.2 _ (HN.out.later hbx.drew)
      have Hbx := Lib.hid hbx.drew
      clear hbx
      go_wp2_with fail
      go_region_held3 (fun w' => w'.cell? ⟨wr.heap.size, 0, none⟩ = some (.int .i64 r.inc) ∧ w'.cell? ⟨wr.heap.size, 1, none⟩ = some (.int .i64 r.use) ∧ w'.cell? ⟨wr.heap.size, 2, none⟩ = some (.slice A lm C))
        (first | exact KP.out _ HWb.out.drew | exact KP.out _ HW2.out | exact KP.out _ (((HW2.out.other hneB _).other hneB _).other hneB _))
        (first | (go_at_call 54; refine (OC.out).mono ?_; rintro e w2 ⟨A3, C3, rfl, hO3, hb⟩; have HW2 := Lib.hid (HWb.out.drew.later hb HWb.out.lt); have hb2 := held_next Hbx.out hb; obtain ⟨hB0, hB1, ⟨y0, y1, y2⟩, ⟨x0, x1, x2, z0, z1, z2⟩, hO4⟩ := part_row (u := .slice A3 lm C3) HO.out hb2 hbsz hkl Hbx.out.size (by rw [Hr.out, ← Hlm.out]; exact hO3) ⟨A3, C3, by rw [Hr.out, ← Hlm.out]⟩; rw [Hr.out] at hO4; have HO4 := Lib.hid hO4; have Hb2 := Lib.hid (Hb.out.trans (hb2.mono hbsz)); have hneB : wr.heap.size ≠ w.heap.size := (by omega); have hlt2 : w.heap.size < w2.heap.size := (by have := hb2.size; omega); clear hO3 hb hb2 hO4) | fail)
      all_goals go_wp2_with fail
      all_goals go_roundw
      case rel => exact ⟨k + 1, by omega, by go_num, HO4.out, ((Hb2.out.setCell (p := ⟨w.heap.size, k * 3, none⟩) (Nat.le_refl _) _).setCell (p := ⟨w.heap.size, k * 3 + 1, none⟩) (Nat.le_refl _) _).setCell (p := ⟨w.heap.size, k * 3 + 2, none⟩) (Nat.le_refl _) _⟩
      case measure => simp [intOf]; omega
    · have hkm : k = m := by omega
      have hO := HO.out
      rw [hkm, Hm.out, part_all] at hO
      obtain ⟨A, C, hv, hBk⟩ := hO.books (by have := Hm.out; omega) (fun q hq => by have := (HL.out q hq).2; omega)
      simp only [Value.slice.injEq] at hv
      obtain ⟨rfl, _, rfl⟩ := hv
      have HO2 := Lib.hid hO
      have Hkm := Lib.hid hkm
      clear hkm hO hBk
      go_wp2
      go_ret
      exact ⟨_, _, by rw [Hm.out]; rfl, HO2.out, Hb.out⟩
end Go.Proofs.Ytlhfggnnikmikaa
