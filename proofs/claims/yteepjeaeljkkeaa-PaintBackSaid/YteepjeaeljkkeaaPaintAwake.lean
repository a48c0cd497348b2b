/- Layer 6's fixed answers, walked. No law is proved here. -/
import Derived.Test.YteepjeaeljkkeaaPaintStand
namespace Go.Proofs.Yteepjeaeljkkeaa
open Go.RowKit

/-- the config that awake asks with -/
def wake6 : Cf := ⟨1, 1, 0, 1, 0, 9⟩
theorem wake_books : booksB [⟨5, 0, [0]⟩] = [5, 0, 0] := by simp [booksB, flatR, rowN, bytesN, u64n, PackMath.num_lt]
theorem wake_take : takeB wake6 [5, 0, 0, 7] = some ([⟨5, 0, [0]⟩], [7]) := takeB_yes ⟨by decide +kernel, by rw [wake_books]; rfl⟩

set_option maxRecDepth 100000 in
set_option maxHeartbeats 2000000 in
theorem awake6 (w : World) : Calls Try.prog 6 #[] w (Says w true) := by
  have HW := Lib.hid (((Whole.made w 23 (cfCells wake6)).alloc (.cells #[.int .i64 0] 2)).alloc (.cells #[.int .i64 5, .int .i64 0, .slice (some ⟨w.heap.size + 1, 0, none⟩) 1 1] 39))
  have Hb0 := Lib.hid ((below_two w (.cells (cfCells wake6) 23) (.cells #[.int .i64 0] 2)).alloc (by simp; omega) (.cells #[.int .i64 5, .int .i64 0, .slice (some ⟨w.heap.size + 1, 0, none⟩) 1 1] 39))
  have HBk : Hid (Books (((w.alloc (.cells (cfCells wake6) 23)).alloc (.cells #[.int .i64 0] 2)).alloc (.cells #[.int .i64 5, .int .i64 0, .slice (some ⟨w.heap.size + 1, 0, none⟩) 1 1] 39)) (.slice (some ⟨w.heap.size + 1 + 1, 0, none⟩) 1 1) [⟨5, 0, [0]⟩]) := by
    refine ⟨fun _ => .slice (some ⟨w.heap.size + 1, 0, none⟩) 1 1, (one_row (Whole.madeAt _ _ _ _ (by simp))).congr (fun i j hi hj => ?_), fun k hk => ?_⟩
    · obtain rfl : i = 0 := by omega
      match j, hj with
      | 0, _ => rfl
      | 1, _ => rfl
      | 2, _ => rfl
    · obtain rfl : k = 0 := by simpa using hk
      exact ⟨_, _, rfl, (one_num ((Whole.made2 w (.cells (cfCells wake6) 23) 2 #[.int .i64 0]).alloc _)).congr (fun i j hi hj => by match i, hi with | 0, _ => rfl)⟩
  go_enter Try.func6, Try.ntmps6
  go_wp2_with fail
  refine (pPut_calls none 0 0 [] (some ⟨w.heap.size + 1 + 1, 0, none⟩) 1 1 [⟨5, 0, [0]⟩] _ (bytes_nil _ _ _ (fun _ => rfl)) rfl (Nat.le_refl _) rfl HBk.out (by decide)).mono ?_
  rintro e w1 ⟨A, m, C, rfl, hm, hmC, hB, hb⟩
  rw [List.nil_append, wake_books] at hB hm
  have Hb1 := Lib.hid (held_next Hb0.out hb)
  have HW1 := Lib.hid (HW.out.later hb HW.out.lt)
  have HBy := Lib.hid hB
  obtain rfl : m = 3 := hm
  clear hb hB
  obtain ⟨d0, d1, d2, d3, d4, d5⟩ := config_cells HW1.out
  simp only [wake6] at d0 d1 d2 d3 d4 d5
  go_wp2_with fail
  have Hb2 := Lib.hid (held_next Hb1.out (below_box w1 (.cells #[.int .u8 5, .int .u8 0, .int .u8 0, .int .u8 7] 5)))
  refine (pTake_calls wake6 (some ⟨w1.heap.size, 0, none⟩) 4 4 [5, 0, 0, 7] _ (bytes_whole (zs := [5, 0, 0, 7]) (Whole.made w1 _ _) rfl (by decide) (by decide)) rfl (Nat.le_refl _)).mono ?_
  rw [wake_take]
  rintro e w2 h
  rcases h with ⟨l, rest, A2, C2, B2, D2, hlr, rfl, hBk, hBr, hD, hb⟩ | ⟨hno, _⟩
  · simp only [Option.some.injEq, Prod.mk.injEq] at hlr
    obtain ⟨rfl, rfl⟩ := hlr
    obtain ⟨b, off, A3, C3, rfl, hbw, c0, c1, c2, hN⟩ := hBk.at (k := 0) (by decide)
    have hcv := str_any (HBy.out.later ((below_box w1 _).trans (hb.mono (by simp))))
    have e1 : strOfNums [5, 0, 0] = { data := #[5, 0, 0] } := by decide +kernel
    rw [e1] at hcv
    have Hb3 := Lib.hid (held_next Hb2.out hb)
    clear hb hN hBr hBk c1 c2 d0 d1 d2 d3 d4 d5 e1
    have hat : (at_ [(⟨5, 0, [0]⟩ : Rw)] 0).inc = 5 := rfl
    rw [hat, Nat.zero_mul, Nat.add_zero] at c0
    go_wp2_with fail
    go_ret
    exact ⟨by simp, Hb3.out⟩
  · cases hno
end Go.Proofs.Yteepjeaeljkkeaa
