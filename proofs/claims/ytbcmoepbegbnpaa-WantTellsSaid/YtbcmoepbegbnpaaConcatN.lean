/- slices.Concat of numbers, slices.Grow of nil. No law is proved here. -/
import Derived.Test.YtbcmoepbegbnpaaWantWords
import Derived.Test.YtbcmoepbegbnpaaAppRun
import Derived.WalkKit
import Derived.ProofKit
import Derived.OpenShut
import Derived.WalkSpells
import Derived.Laws.AppendOwn
import Derived.Laws.AppendOwnNone
import Derived.Laws.OwnMore
import Derived.Lib.Hide
import Derived.Deep.Draws
import Derived.RegionTactic
import Derived.LoopTactic
import Derived.BigRegion
import Derived.Deep.LoopGhost
import Derived.Lib.AppendZeros
import Derived.IntWalk
namespace Go.Proofs.Ytbcmoepbegbnpaa
open Go.ChangeShapes Go.WideShapes Go.ChangeAt Go.RowKit Go.Joins Go.Deep
attribute [local go_sem ↓] run_fine

theorem elem_n64s : Try.prog.underlying 22 = some (.slice (Try.prog.elem 22)) := by kernel_rfl
theorem size_n64s (w : World) : (sizeOf (Try.prog.elem 22)).run Try.prog w = .ok 1 w := by kernel_rfl
/-- numbers in a row of the call's own, below which nothing has turned -/
def OwnedN (w : World) (l : List Int) (e : Ending) (w' : World) : Prop := ∃ v, e = .returned v ∧ OwnN w' w.heap.size v l ∧ Below w.heap.size w w'
set_option maxRecDepth 100000 in
theorem growN_calls (n : Nat) (hn : n ≤ 1000000) (w : World) : Calls Try.prog 16 #[.slice none 0 0, .int .i64 (n : Int)] w (OwnedN w []) := by
  by_cases h0 : n = 0
  · subst h0
    go_enter Try.func16, Try.ntmps16
    go_wp2
    go_ret
    exact ⟨_, rfl, World.ownsRow_nil _ _ _ _, Below.refl _ _⟩
  · obtain ⟨i5, hi, hz0, hz1, hz2⟩ := info_parts info_n64
    have hrun := Lib.run_append_nil_zeros (P := Try.prog) w 22 3 22 2 i5 (.int .i64 0) .i64 .i64 Try.underlying22 Try.underlying3 hi hz0 n (by omega) (by omega) (by omega) (by rw [hz2]; omega)
    have hCn := grownCap_ge w n 0 2
    have hCm := grownCap_le_maxLen w n 0 2 (by unfold maxLen; omega)
    obtain ⟨C, hC⟩ : ∃ C, grownCap w n 0 2 = C := ⟨_, rfl⟩
    rw [hC] at hrun hCn hCm
    obtain ⟨hf1, hv1, hw1⟩ := fine_of hrun
    have hO : OwnN (w.drew.alloc (.cells (Builtin.zeroCells (Value.int .i64 0).cells n ++ Builtin.zeroCells (Value.int .i64 0).cells (C - n)) 2)) w.heap.size (.slice (some ⟨w.heap.size, 0, none⟩) 0 C) [] :=
      World.ownsRow_made w.drew _ C (Nat.le_refl _) hCm (by rw [Array.size_append, size_zeroCells, size_zeroCells]; simp [Value.cells]; omega)
    have HO := Lib.hid hO
    have Hb : Hid (Below w.heap.size w (w.drew.alloc (.cells (Builtin.zeroCells (Value.int .i64 0).cells n ++ Builtin.zeroCells (Value.int .i64 0).cells (C - n)) 2))) := ((Below.refl _ _).drew).alloc (Nat.le_refl _) _
    obtain ⟨W1, hW1⟩ : ∃ z, w.drew.alloc (.cells (Builtin.zeroCells (Value.int .i64 0).cells n ++ Builtin.zeroCells (Value.int .i64 0).cells (C - n)) 2) = z := ⟨_, rfl⟩
    rw [hW1] at hw1 HO Hb
    have hC0 : ¬ C = 0 := by omega
    have hsl1 : ∀ W : World, (Instr.slice 22 (.slice none 0 0) none (some (.int .i64 0)) none).run Try.prog W = .ok (.slice none 0 0) W := by
      intro W
      have h := run_slice_h W 22 none 0 0 elem_n64s .i64 0 (by omega) (by omega)
      rw [size_n64s] at h
      rw [h]; simp [Result.andThen, sliced]
    have hsl2 : ∀ W : World, (Instr.slice 22 (.slice (some ⟨w.heap.size, 0, none⟩) n C) none (some (.int .i64 0)) none).run Try.prog W = .ok (.slice (some ⟨w.heap.size, 0, none⟩) 0 C) W := by
      intro W
      have h := run_slice_h W 22 (some ⟨w.heap.size, 0, none⟩) n C elem_n64s .i64 0 (by omega) (by omega)
      rw [size_n64s] at h
      rw [h]; simp [Result.andThen, sliced, hC0, Addr.add]
    have hpos : (0 : Int) < (n : Int) := by omega
    clear hrun hO hW1 hCm hCn hi hz0 hz1 hz2 hC
    go_enter Try.func16, Try.ntmps16
    go_wp2
    go_ret
    exact ⟨_, rfl, HO.out, Hb.out⟩

/-- some slices of numbers, in a row, and their numbers -/
def RowsN (w : World) (g m : Nat) (f : Nat → Option Addr × Nat × Nat) (zf : Nat → List Int) : Prop :=
  ∀ k, k < m → w.cell? ⟨g, k, none⟩ = some (.slice (f k).1 (f k).2.1 (f k).2.2) ∧ (f k).2.1 = (zf k).length ∧ Nums w (.slice (f k).1 (f k).2.1 (f k).2.2) (zf k)
def catL (zf : Nat → List Int) : Nat → List Int
  | 0 => []
  | k + 1 => catL zf k ++ zf k
theorem catL_le (zf : Nat → List Int) {k m : Nat} (h : k ≤ m) : (catL zf k).length ≤ (catL zf m).length := by
  induction m with
  | zero => obtain rfl : k = 0 := by omega
            exact Nat.le_refl _
  | succ m ih =>
    by_cases e : k = m + 1
    · rw [e]; exact Nat.le_refl _
    · have := ih (by omega)
      rw [catL, List.length_append]
      omega
set_option maxRecDepth 100000 in
set_option maxHeartbeats 8000000 in
theorem concatN_calls (g m : Nat) (f : Nat → Option Addr × Nat × Nat) (zf : Nat → List Int) (w : World) (hR : RowsN w g m f zf) (hm : m ≤ 1000) (hroom : (catL zf m).length ≤ 1000000) :
    Calls Try.prog 14 #[.slice (some ⟨g, 0, none⟩) m m] w (OwnedN w (catL zf m)) := by
  have HR := Lib.hid hR; clear hR
  have Hroom := Lib.hid hroom; clear hroom
  have hbm : m ≤ 9223372036854775807 := by omega
  go_enter Try.func14, Try.ntmps14
  go_wp2_with fail
  go_loop [3, 11] (fun s i => ∃ k q : Nat, k ≤ m ∧ i = .int .i64 k ∧ s = .int .i64 q ∧ Hid (q = (catL zf k).length)) (fun _ i => m - (intOf i).toNat)
  case atStart => exact ⟨0, 0, Nat.zero_le _, rfl, rfl, rfl⟩
  case round =>
    obtain ⟨k, q, hk, rfl, rfl, Hq⟩ := hrel
    by_cases hlt : k < m
    · obtain ⟨c0, hn, hN⟩ := HR.out k hlt
      generalize f k = sk at c0 hn hN
      obtain ⟨a, n, c⟩ := sk
      have hn : n = (zf k).length := hn
      have c0 : w.cell? ⟨g, k, none⟩ = some (.slice a n c) := c0
      have Hn := Lib.hid hn
      have hle := catL_le zf (show k + 1 ≤ m by omega)
      have hsum : q + n = (catL zf (k + 1)).length := by rw [catL, List.length_append, Hq.out]; omega
      have hqb : q + n ≤ 1000000 := by have := Hroom.out; omega
      have hw1 : IntKind.i64.wrap ((q : Int) + (n : Int)) = ((q + n : Nat) : Int) := by rw [IntWalk.i64_in _ (by omega)]; omega
      have hnn : ¬ (((q + n : Nat) : Int) < 0) := by omega
      obtain ⟨s, Hs⟩ : ∃ z, Hid (q + n = z) := ⟨_, rfl⟩
      rw [Hs.out] at hw1 hnn hsum
      have Hsum := Lib.hid hsum
      have k0 : (0 : Int) ≤ (k : Int) := by omega
      have k1 : (k : Int) < (m : Int) := by omega
      clear hN hn hle hsum hqb
      go_wp2_with fail
      go_round
      case rel => exact ⟨k + 1, s, by omega, by go_num, rfl, Hsum.out⟩
      case measure => simp [intOf]; omega
    · obtain rfl : k = m := by omega
      have hqb : q ≤ 1000000 := by have := Hroom.out; have := Hq.out; omega
      go_wp2_with fail
      refine (growN_calls q hqb _).mono ?_
      rintro e w1 ⟨v1, rfl, hO, hb⟩
      have HO : Hid (OwnN w1 w.heap.size v1 (catL zf 0)) := hO
      have Hb := Lib.hid hb
      clear hO hb hqb
      go_wp2_with fail
      go_loopg [6, 27] k (fun gh s6 s27 wr => ∃ (i : Nat) (lv : Value), i + gh = k ∧ s27 = .int .i64 i ∧ s6 = lv ∧ Hid (OwnN wr w.heap.size lv (catL zf i)) ∧ Hid (Below w.heap.size w wr))
      case atStart => exact ⟨0, _, by omega, rfl, rfl, HO.out, Hb.out⟩
      case round =>
        clear HO Hb
        obtain ⟨i, lv, hg, rfl, hlv, HO, Hb⟩ := hrel
        have hlv' := hlv.symm
        subst hlv'
        clear hlv
        by_cases hlt : i < k
        · obtain ⟨c0, hn, hN⟩ := HR.out i hlt
          generalize f i = sk at c0 hn hN
          obtain ⟨a, n, c⟩ := sk
          have hn : n = (zf i).length := hn
          have c0 : w.cell? ⟨g, i, none⟩ = some (.slice a n c) := c0
          have hN : Nums w (.slice a n c) (zf i) := hN
          have d0 := cell_later Hb.out c0
          have hle := catL_le zf (show i + 1 ≤ k by omega)
          have hroom2 : (catL zf i).length + (zf i).length ≤ 1000000 := by
            have := Hroom.out
            rw [catL, List.length_append] at hle
            omega
          obtain ⟨v2, w2, hrun2, q1, q2, _⟩ := run_append_nums HO.out (hN.later Hb.out) hn hroom2 Hb.out.size
          obtain ⟨hf2, hv2, hw2⟩ := fine_of hrun2
          have HO2 : Hid (OwnN w2 w.heap.size v2 (catL zf (i + 1))) := q1
          have Hb2 : Hid (Below w.heap.size w w2) := Hb.out.trans q2
          have k0 : (0 : Int) ≤ (i : Int) := by omega
          have k1 : (i : Int) < (k : Int) := by omega
          clear hN hn hle hroom2 hrun2 q1 q2 c0
          go_wp2_with fail
          go_roundg (k - (i + 1))
          case measure => omega
          case rel => exact ⟨i + 1, _, by omega, by go_num, rfl, HO2.out, Hb2.out⟩
        · obtain rfl : i = k := by omega
          go_wp2_with fail
          go_ret
          exact ⟨_, rfl, HO.out, Hb.out⟩
end Go.Proofs.Ytbcmoepbegbnpaa
