/- Package paint, walked: the numbers of a row, the row of some numbers. No law is proved here. -/
import Derived.Test.YteepjeaeljkkeaaPaintWords
import Derived.WalkKit
import Derived.ProofKit
import Derived.OpenShut
import Derived.WalkSpells
import Derived.Laws.AppendOwn
import Derived.Laws.AppendOwnNone
import Derived.Laws.OwnMore
import Derived.Lib.Hide
import Derived.Deep.Draws
import Derived.Deep.Slices
import Derived.Deep.Fields
import Derived.ChangeSame
import Derived.RegionTactic
import Derived.Maps.AppendAt
import Derived.Lib.SmallJoins
import Derived.RangeFuncNested
import Derived.RangeFuncBound
import Derived.RangeFuncLeaves
import Derived.RangeFuncBox
import Derived.Laws.MakeOwn
import Derived.LoopTactic
import Derived.BigRegion
import Derived.Deep.RegionHeld3
namespace Go.Proofs.Yteepjeaeljkkeaa
open Go.RowKit

attribute [local go_sem ↓] run_fine
theorem two_nums {w : World} {g B : Nat} {x y : Int} (h : Whole w g 2 #[.int .i64 x, .int .i64 y]) (hb : B ≤ g) : w.ownsRow B 2 1 (.slice (some ⟨g, 0, none⟩) 2 2) 2 ([x, y].map (Value.int .i64)) := by
  rw [flat_one]
  exact own_whole h hb rfl (by decide)
/-- numbers of the call's own -/
def Numbered (w : World) (l : List Int) (e : Ending) (w' : World) : Prop := ∃ A C, e = .returned (.slice A l.length C) ∧ w'.ownsRow w.heap.size 2 1 (.slice A l.length C) l.length (l.map (Value.int .i64)) ∧ Below w.heap.size w w'
set_option maxRecDepth 100000 in
set_option maxHeartbeats 4000000 in
theorem numbers_calls (x y : Int) (A : Option Addr) (q C : Nat) (out : List Int) (hq : q = out.length) (w : World) (hN : Nums w (.slice A q C) out) (hroom : q ≤ 14073748835500) :
    Calls Try.prog 22 #[rowV x y (.slice A q C)] w (Numbered w ([x, y] ++ out)) := by
  obtain ⟨i0, hi, hz0, hz1, hz2⟩ := info_parts info_int64
  have HW := Lib.hid (Whole.made w 39 #[.int .i64 x, .int .i64 y, .slice A q C])
  have hb1 : Below w.heap.size w ((w.alloc (.cells #[.int .i64 x, .int .i64 y, .slice A q C] 39)).alloc (.cells #[.int .i64 x, .int .i64 y] 2)) := below_two w _ _
  have hown := two_nums (B := w.heap.size) (Whole.made2 w (.cells #[.int .i64 x, .int .i64 y, .slice A q C] 39) 2 #[.int .i64 x, .int .i64 y]) (by omega)
  rw [flat_one] at hown
  obtain ⟨v1, w1, hrun1, q1, q2, _⟩ := run_append_elems (P := Try.prog) (w := (w.alloc (.cells #[.int .i64 x, .int .i64 y, .slice A q C] 39)).alloc (.cells #[.int .i64 x, .int .i64 y] 2)) 37 37 w.heap.size 2 i0 _ 1 8 Try.underlying37 hi hz0 hz1 hz2 rfl (by decide)
    (.slice (some ⟨w.heap.size + 1, 0, none⟩) 2 2) 2 _ hown A q C (fun i _ => .int .i64 (out[i]?.getD 0)) (by have h := hN.later hb1; unfold Nums at h; rw [← hq] at h; exact h) (fun _ _ _ _ => rfl) (by unfold maxLen; omega) (by omega) hb1.size
  obtain ⟨hf1, hv1, hw1⟩ := fine_of hrun1
  have Hq : Hid (∃ A C, v1 = .slice A ([x, y] ++ out).length C ∧ w1.ownsRow w.heap.size 2 1 (.slice A ([x, y] ++ out).length C) ([x, y] ++ out).length (([x, y] ++ out).map (Value.int .i64))) := by
    have e : flatCells 1 (2 + q) (fun i j => if i < 2 then (fun i (_ : Nat) => Value.int .i64 (([x, y] : List Int)[i]?.getD 0)) i j else (fun i (_ : Nat) => Value.int .i64 (out[i]?.getD 0)) (i - 2) j) = ([x, y] ++ out).map (Value.int .i64) := by
      rw [flat_one, List.length_append, ← hq]
      show flatCells 1 (2 + q) _ = flatCells 1 (2 + q) _
      congr 1
      funext i j
      match i with
      | 0 => rfl
      | 1 => rfl
      | i + 2 =>
        rw [if_neg (by omega)]
        simp
    have q1' : w1.ownsRow w.heap.size 2 1 v1 (2 + q) (([x, y] ++ out).map (Value.int .i64)) := by rw [← e]; exact q1
    have hlen : 2 + q = ([x, y] ++ out).length := by rw [List.length_append, ← hq]; rfl
    rw [hlen] at q1'
    obtain ⟨A', C', rfl, _⟩ := nums_of_own q1' rfl (by rw [← hlen]; omega)
    exact ⟨A', C', rfl, q1'⟩
  have Hb := Lib.hid (hb1.trans q2)
  clear hrun1 q1 q2 hb1 hown hN hi hz0 hz1 hz2 hq
  have d0 := HW.out.cell 0
  have d1 := HW.out.cell 1
  have d2 := HW.out.cell 2
  go_enter Try.func22, Try.ntmps22
  go_wp2
  go_ret
  obtain ⟨A', C', rfl, hN⟩ := Hq.out
  exact ⟨A', C', rfl, hN, Hb.out⟩
/-- the row of some numbers -/
def RowOf (w : World) (x y : Int) (v : Value) (e : Ending) (w' : World) : Prop := e = .returned (rowV x y v) ∧ Below w.heap.size w w'
set_option maxRecDepth 100000 in
set_option maxHeartbeats 4000000 in
theorem rowof_calls (x y : Int) (g k cap : Nat) (hk : 3 ≤ k) (hc : k ≤ cap) (hbk : k ≤ 1000) (w : World) (x0 : w.cell? ⟨g, 0, none⟩ = some (.int .i64 x)) (x1 : w.cell? ⟨g, 1, none⟩ = some (.int .i64 y)) :
    Calls Try.prog 16 #[.slice (some ⟨g, 0, none⟩) k cap] w (RowOf w x y (.slice (some ⟨g, 2, none⟩) (k - 2) (cap - 2))) := by
  have hsl : ∀ w : World, (Instr.slice 37 (.slice (some ⟨g, 0, none⟩) k cap) (some (.int .i64 2)) none none).run Try.prog w = .ok (.slice (some ⟨g, 2, none⟩) (k - 2) (cap - 2)) w := by
    intro w
    rw [run_slice_l w 37 (some ⟨g, 0, none⟩) k cap elem_nums .i64 2 (by omega) (by omega), size_nums]
    have e2 : ¬ cap = 2 := by omega
    simp [Result.andThen, sliced, Addr.add, e2]
  have hg : g < w.heap.size := World.block_lt_of_cell? w _ x0
  have j0 : (0 : Int) < (k : Int) := by omega
  have j1 : (1 : Int) < (k : Int) := by omega
  have hbig : k ≤ 9223372036854775807 := by omega
  clear hbk
  go_enter Try.func16, Try.ntmps16
  go_wp2
  go_region
  go_wp2
  refine bodyPost_ret (v := rowV x y (.slice (some ⟨g, 2, none⟩) (k - 2) (cap - 2))) (by simp [results, Try.results16, go_sem]) rfl ⟨rfl, (below_box w _).drew⟩
end Go.Proofs.Yteepjeaeljkkeaa
