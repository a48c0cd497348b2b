/- The document's own New: books without anything. No law is proved here. -/
import Derived.Test.YtlhfggnnikmikaaRefRightsCopy
import Derived.Test.YtlhfggnnikmikaaRefRightsOf
namespace Go.Proofs.Ytlhfggnnikmikaa
open Go.RowKit
attribute [local go_sem ↓] run_fine

/-- a row without anything, among n -/
def zeroRow (n : Nat) : Rw := ⟨0, 0, List.replicate n 0⟩
/-- books without anything, of a config that may be; else none -/
def newL (c : Cf) : List Rw := if cfOk c then List.replicate c.n.toNat (zeroRow c.n.toNat) else []

theorem made_flat (n : Nat) : (madeCells #[.int .i64 0] n).toList = (List.replicate n (0 : Int)).map (Value.int .i64) := by
  unfold madeCells
  apply List.ext_getElem
  · simp
  · intro i h1 h2
    simp [Nat.mod_one]

set_option maxRecDepth 100000 in
set_option maxHeartbeats 8000000 in
theorem refnew_calls (c : Cf) (w : World) : Calls Try.prog 17 #[cfV c] w (Copied w (newL c)) := by
  have HW := Lib.hid (Whole.made w 23 (cfCells c))
  have Hb0 := Lib.hid (below_box w (.cells (cfCells c) 23))
  obtain ⟨n, q, r, p, kk, cc⟩ := c
  obtain ⟨ok, Hok⟩ : ∃ z, Hid (cfB ⟨n, q, r, p, kk, cc⟩ = z) := ⟨_, rfl⟩
  obtain ⟨i5, hi, hz0, hz1, hz2⟩ := info_parts info_row
  have Ki := Lib.hid hi; clear hi
  have Kz0 := Lib.hid hz0; clear hz0
  have Kz1 := Lib.hid hz1; clear hz1
  have Kz2 := Lib.hid hz2; clear hz2
  cases ok with
  | false =>
    have e : newL ⟨n, q, r, p, kk, cc⟩ = [] := if_neg fun h => by
      have := cfB_yes h
      rw [Hok.out] at this
      cases this
    rw [e]
    clear e
    go_enter Try.func17, Try.ntmps17
    go_wp2_with fail
    go_loopw [3, 4] (fun t i wr => t = .slice none 0 0 ∧ i = .int .i64 0 ∧ Hid (Below w.heap.size w wr) ∧ Hid (Whole wr w.heap.size 23 (cfCells ⟨n, q, r, p, kk, cc⟩))) (fun _ _ _ => 0)
    case atStart => exact ⟨rfl, rfl, Hb0.out, HW.out⟩
    case round =>
      obtain ⟨rfl, rfl, Hb, HWr⟩ := hrel
      obtain ⟨d0, d1, d2, d3, d4, d5⟩ := config_cells HWr.out
      simp only at d0 d1 d2 d3 d4 d5
      go_wp2_with fail
      refine (refcfg_calls ⟨n, q, r, p, kk, cc⟩ _).mono ?_
      rintro e w2 ⟨rfl, hb⟩
      rw [Hok.out]
      have Hb2 := Lib.hid (held_next Hb.out hb)
      clear hb d0 d1 d2 d3 d4 d5
      go_wp2_with fail
      go_ret
      exact ⟨none, 0, by rfl, ownBooks_nil _ _, Hb2.out⟩
  | true =>
    have hok := cfB_ok Hok.out
    obtain ⟨m, hmn⟩ : ∃ m : Nat, n = (m : Int) := ⟨n.toNat, by have := hok.1; simp only at this; omega⟩
    subst hmn
    have h16 : m ≤ 16 := by have := hok.2.1; simp only at this; omega
    have e : newL ⟨m, q, r, p, kk, cc⟩ = List.replicate m (zeroRow m) := by
      unfold newL
      rw [if_pos hok]; rfl
    rw [e]
    clear e hok
    have hmk : ∀ w : World, (Instr.makeSlice 47 (.int .i64 (m : Int)) (.int .i64 (m : Int))).run Try.prog w = .ok (.slice (some ⟨w.heap.size, 0, none⟩) m m) (w.alloc (.cells (madeCells #[.int .i64 0] m) 2)) := by
      intro w
      obtain ⟨i0, hi, hz0, hz1, hz2⟩ := info_parts info_int64
      have := run_make (P := Try.prog) w 47 2 i0 (.int .i64 0) Try.underlying47 hi hz0 .i64 .i64 (m : Int) (m : Int) (by omega) (by omega) (by rw [hz2]; omega) (by omega)
      simpa [hz1, show (Value.int .i64 0).cells = #[.int .i64 0] from rfl] using this
    go_enter Try.func17, Try.ntmps17
    go_wp2_with fail
    go_loopw [3, 4] (fun t i wr => ∃ (k : Nat) (tv : Value), k ≤ m ∧ t = tv ∧ i = .int .i64 k ∧ Hid (OwnBooks wr w.heap.size tv (List.replicate k (zeroRow m))) ∧ Hid (Below w.heap.size w wr) ∧ Hid (Whole wr w.heap.size 23 (cfCells ⟨m, q, r, p, kk, cc⟩))) (fun _ i _ => m - (intOf i).toNat)
    case atStart => exact ⟨0, _, Nat.zero_le _, rfl, rfl, ownBooks_nil _ _, Hb0.out, HW.out⟩
    case round =>
      obtain ⟨k, tv, hk, htv, rfl, HO, Hb, HWr⟩ := hrel
      have htv' := htv.symm
      subst htv'
      clear htv
      obtain ⟨d0, d1, d2, d3, d4, d5⟩ := config_cells HWr.out
      simp only at d0 d1 d2 d3 d4 d5
      go_wp2_with fail
      refine (refcfg_calls ⟨m, q, r, p, kk, cc⟩ _).mono ?_
      rintro e w2 ⟨rfl, hb⟩
      rw [Hok.out]
      have Hb2 := Lib.hid (held_next Hb.out hb)
      have HW2 := Lib.hid (HWr.out.later hb HWr.out.lt)
      have HO2 := Lib.hid (HO.out.later hb)
      clear hb d0 d1 d2 d3 d4 d5 HO
      have d0 : w2.cell? ⟨w.heap.size, 0, none⟩ = some (.int .i64 (m : Int)) := HW2.out.cell 0
      by_cases hlt : k < m
      · obtain ⟨g, hG⟩ := HO2.out
        have hsz := Hb2.out.size
        have hlw := HW2.out.lt
        have q1 : (w2.alloc (.cells (madeCells #[.int .i64 0] m) 2)).ownsRow w2.heap.size 2 1 (.slice (some ⟨w2.heap.size, 0, none⟩) m m) m ((zeroRow m).out.map (Value.int .i64)) := by
          have := own_whole (n := m) (sz := 1) (f := fun q _ => .int .i64 ((zeroRow m).out[q]?.getD 0)) (Whole.made w2 2 (madeCells #[.int .i64 0] m)) (Nat.le_refl _) (by rw [made_flat]; have := flat_one (zeroRow m).out; rw [show (zeroRow m).out.length = m by simp [zeroRow]] at this; exact this) (by unfold maxLen; omega)
          have e := flat_one (zeroRow m).out
          rw [show (zeroRow m).out.length = m by simp [zeroRow]] at e
          rw [e]; exact this
        have hzl : (zeroRow m).out.length = m := by simp [zeroRow]
        have hb3 : Below w2.heap.size w2 ((w2.alloc (.cells (madeCells #[.int .i64 0] m) 2)).alloc (.cells #[.int .i64 0, .int .i64 0, .slice (some ⟨w2.heap.size, 0, none⟩) m m] 49)) := below_two w2 _ _
        have hrl : (List.replicate k (zeroRow m)).length = k := by simp
        obtain ⟨v2, w3, hrun2, p1, p2, p3⟩ := run_append_elems (P := Try.prog) (w := (w2.alloc (.cells (madeCells #[.int .i64 0] m) 2)).alloc (.cells #[.int .i64 0, .int .i64 0, .slice (some ⟨w2.heap.size, 0, none⟩) m m] 49)) 24 24 w.heap.size 49 i5 _ 3 40 Try.underlying24 Ki.out Kz0.out Kz1.out Kz2.out rfl (by decide)
          _ _ _ (own_later hG.1 hb3) (some ⟨w2.heap.size + 1, 0, none⟩) 1 1 (fun _ j => if j = 0 then .int .i64 0 else if j = 1 then .int .i64 0 else .slice (some ⟨w2.heap.size, 0, none⟩) m m) (one_row (Whole.made2 w2 _ _ _))
          (fun i j _ hj => by match j, hj with | 0, _ => rfl | 1, _ => rfl | 2, _ => rfl) (by rw [hrl]; unfold maxLen; omega) (by rw [hrl]; omega) (by have := hb3.size; omega)
        obtain ⟨A2, C2, rfl, _⟩ := elems_of_own p1 (by rw [hrl]; omega)
        have hpush := ownG_push (r := zeroRow m) hG hb3 hsz (by rw [hzl]; exact own_later q1 (below_box _ _)) ⟨_, _, by rw [hzl]⟩ p1 p3.1
        have Hpush : Hid (OwnBooks w3 w.heap.size (.slice A2 ((List.replicate k (zeroRow m)).length + 1) C2) (List.replicate (k + 1) (zeroRow m))) := by
          rw [List.replicate_succ']; exact ⟨_, hpush⟩
        have Hbn : Hid (Below w.heap.size w w3) := (Hb2.out.trans (hb3.mono hsz)).trans p2
        have HWn : Hid (Whole w3 w.heap.size 23 (cfCells ⟨m, q, r, p, kk, cc⟩)) := by
          have h1 := (HW2.out.alloc (.cells (madeCells #[.int .i64 0] m) 2)).alloc (.cells #[.int .i64 0, .int .i64 0, .slice (some ⟨w2.heap.size, 0, none⟩) m m] 49)
          exact (p3.whole h1 (fun e => (h1.not_row (by decide) (own_later hG.1 hb3)) e.symm)).1
        rw [hrl] at hrun2 Hpush
        have hf2 : Fine Try.prog ((w2.alloc (.cells (madeCells #[.int .i64 0] m) 2)).alloc (.cells #[.int .i64 0, .int .i64 0, .slice (some ⟨w2.heap.size, 0, none⟩) m m] 49)) #[24, 24] 24 #[tv, .slice (some ⟨w2.heap.size + 1, 0, none⟩) 1 1] := ⟨_, _, hrun2⟩
        have hv2 : appV Try.prog ((w2.alloc (.cells (madeCells #[.int .i64 0] m) 2)).alloc (.cells #[.int .i64 0, .int .i64 0, .slice (some ⟨w2.heap.size, 0, none⟩) m m] 49)) #[24, 24] 24 #[tv, .slice (some ⟨w2.heap.size + 1, 0, none⟩) 1 1] = .slice A2 (k + 1) C2 := by unfold appV; rw [hrun2]; rfl
        have hw2 : appW Try.prog ((w2.alloc (.cells (madeCells #[.int .i64 0] m) 2)).alloc (.cells #[.int .i64 0, .int .i64 0, .slice (some ⟨w2.heap.size, 0, none⟩) m m] 49)) #[24, 24] 24 #[tv, .slice (some ⟨w2.heap.size + 1, 0, none⟩) 1 1] = w3 := by unfold appW; rw [hrun2]; rfl
        clear hrun2 q1 p1 p2 p3 hpush hb3 hG hrl hzl
        go_wp2
        go_roundw
        case rel => exact ⟨k + 1, _, by omega, rfl, by go_num, Hpush, Hbn, HWn⟩
        case measure => simp [intOf]; omega
      · have hkm : k = m := by omega
        have hO := HO2.out
        rw [hkm] at hO
        obtain ⟨A, C, rfl, _⟩ := hO.books (by simp; omega) (fun q hq => by
          rw [List.length_replicate] at hq
          simp [at_, hq, zeroRow]; omega)
        have HO3 := Lib.hid hO
        have Hkm := Lib.hid hkm
        clear hkm hO
        go_wp2
        go_ret
        refine ⟨A, C, by rw [List.length_replicate]; rfl, ?_, Hb2.out⟩
        have := HO3.out
        simpa using this
end Go.Proofs.Ytlhfggnnikmikaa
