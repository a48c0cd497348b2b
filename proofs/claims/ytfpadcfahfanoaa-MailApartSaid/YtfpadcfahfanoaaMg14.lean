/- Merged texts: PaintRows, PackRefPut. No law is proved here. -/
import Derived.Test.YtfpadcfahfanoaaMg13
import Derived.WalkKit
import Derived.ProofKit
import Derived.OpenShut
import Derived.WalkSpells
import Derived.Laws.AppendOwn
import Derived.Laws.AppendOwnNone
import Derived.Laws.OwnMore
import Derived.Lib.Hide
import Derived.Deep.Draws
import Derived.Deep.Slices
import Derived.Deep.Fields
import Derived.ChangeSame
import Derived.RegionTactic
import Derived.Maps.AppendAt
import Derived.Lib.SmallJoins
import Derived.RangeFuncNested
import Derived.RangeFuncBound
import Derived.RangeFuncLeaves
import Derived.RangeFuncBox
import Derived.Laws.MakeOwn
import Derived.LoopTactic
import Derived.BigRegion
import Derived.Deep.RegionHeld3
import Derived.Test.YtfpadcfahfanoaaMg11
/- Package paint, walked: the numbers of a row, the row of some numbers. No law is proved here. -/
namespace Go.Proofs.Ytfpadcfahfanoaa
open Go.RowKit

attribute [local go_sem ↓] run_fine
theorem two_nums {w : World} {g B : Nat} {x y : Int} (h : Whole w g 2 #[.int .i64 x, .int .i64 y]) (hb : B ≤ g) : w.ownsRow B 2 1 (.slice (some ⟨g, 0, none⟩) 2 2) 2 ([x, y].map (Value.int .i64)) := by
  rw [flat_one]
  exact own_whole h hb rfl (by decide)
/-- numbers of the call's own -/
def Numbered (w : World) (l : List Int) (e : Ending) (w' : World) : Prop := ∃ A C, e = .returned (.slice A l.length C) ∧ w'.ownsRow w.heap.size 2 1 (.slice A l.length C) l.length (l.map (Value.int .i64)) ∧ Below w.heap.size w w'
set_option maxRecDepth 100000 in
set_option maxHeartbeats 4000000 in
theorem numbers_calls (x y : Int) (A : Option Addr) (q C : Nat) (out : List Int) (hq : q = out.length) (w : World) (hN : Nums w (.slice A q C) out) (hroom : q ≤ 14073748835500) :
    Calls Try.prog 46 #[rowV x y (.slice A q C)] w (Numbered w ([x, y] ++ out)) := by
  obtain ⟨i0, hi, hz0, hz1, hz2⟩ := info_parts info_int64
  have HW := Lib.hid (Whole.made w 59 #[.int .i64 x, .int .i64 y, .slice A q C])
  have hb1 : Below w.heap.size w ((w.alloc (.cells #[.int .i64 x, .int .i64 y, .slice A q C] 59)).alloc (.cells #[.int .i64 x, .int .i64 y] 2)) := below_two w _ _
  have hown := two_nums (B := w.heap.size) (Whole.made2 w (.cells #[.int .i64 x, .int .i64 y, .slice A q C] 59) 2 #[.int .i64 x, .int .i64 y]) (by omega)
  rw [flat_one] at hown
  obtain ⟨v1, w1, hrun1, q1, q2, _⟩ := run_append_elems (P := Try.prog) (w := (w.alloc (.cells #[.int .i64 x, .int .i64 y, .slice A q C] 59)).alloc (.cells #[.int .i64 x, .int .i64 y] 2)) 52 52 w.heap.size 2 i0 _ 1 8 Try.underlying52 hi hz0 hz1 hz2 rfl (by decide)
    (.slice (some ⟨w.heap.size + 1, 0, none⟩) 2 2) 2 _ hown A q C (fun i _ => .int .i64 (out[i]?.getD 0)) (by have h := hN.later hb1; unfold Nums at h; rw [← hq] at h; exact h) (fun _ _ _ _ => rfl) (by unfold maxLen; omega) (by omega) hb1.size
  obtain ⟨hf1, hv1, hw1⟩ := fine_of hrun1
  have Hq : Hid (∃ A C, v1 = .slice A ([x, y] ++ out).length C ∧ w1.ownsRow w.heap.size 2 1 (.slice A ([x, y] ++ out).length C) ([x, y] ++ out).length (([x, y] ++ out).map (Value.int .i64))) := by
    have e : flatCells 1 (2 + q) (fun i j => if i < 2 then (fun i (_ : Nat) => Value.int .i64 (([x, y] : List Int)[i]?.getD 0)) i j else (fun i (_ : Nat) => Value.int .i64 (out[i]?.getD 0)) (i - 2) j) = ([x, y] ++ out).map (Value.int .i64) := by
      rw [flat_one, List.length_append, ← hq]
      show flatCells 1 (2 + q) _ = flatCells 1 (2 + q) _
      congr 1
      funext i j
      match i with
      | 0 => rfl
      | 1 => rfl
      | i + 2 =>
        rw [if_neg (by omega)]
        simp
    have q1' : w1.ownsRow w.heap.size 2 1 v1 (2 + q) (([x, y] ++ out).map (Value.int .i64)) := by rw [← e]; exact q1
    have hlen : 2 + q = ([x, y] ++ out).length := by rw [List.length_append, ← hq]; rfl
    rw [hlen] at q1'
    obtain ⟨A', C', rfl, _⟩ := nums_of_own q1' rfl (by rw [← hlen]; omega)
    exact ⟨A', C', rfl, q1'⟩
  have Hb := Lib.hid (hb1.trans q2)
  clear hrun1 q1 q2 hb1 hown hN hi hz0 hz1 hz2 hq
  have d0 := HW.out.cell 0
  have d1 := HW.out.cell 1
  have d2 := HW.out.cell 2
  go_enter Try.func46, Try.ntmps46
  go_wp2
  go_ret
  obtain ⟨A', C', rfl, hN⟩ := Hq.out
  exact ⟨A', C', rfl, hN, Hb.out⟩
/-- the row of some numbers -/
def RowOf (w : World) (x y : Int) (v : Value) (e : Ending) (w' : World) : Prop := e = .returned (rowV x y v) ∧ Below w.heap.size w w'
set_option maxRecDepth 100000 in
set_option maxHeartbeats 4000000 in
theorem rowof_calls (x y : Int) (g k cap : Nat) (hk : 3 ≤ k) (hc : k ≤ cap) (hbk : k ≤ 1000) (w : World) (x0 : w.cell? ⟨g, 0, none⟩ = some (.int .i64 x)) (x1 : w.cell? ⟨g, 1, none⟩ = some (.int .i64 y)) :
    Calls Try.prog 53 #[.slice (some ⟨g, 0, none⟩) k cap] w (RowOf w x y (.slice (some ⟨g, 2, none⟩) (k - 2) (cap - 2))) := by
  have hsl : ∀ w : World, (Instr.slice 52 (.slice (some ⟨g, 0, none⟩) k cap) (some (.int .i64 2)) none none).run Try.prog w = .ok (.slice (some ⟨g, 2, none⟩) (k - 2) (cap - 2)) w := by
    intro w
    rw [run_slice_l w 52 (some ⟨g, 0, none⟩) k cap elem_nums .i64 2 (by omega) (by omega), size_nums]
    have e2 : ¬ cap = 2 := by omega
    simp [Result.andThen, sliced, Addr.add, e2]
  have hg : g < w.heap.size := World.block_lt_of_cell? w _ x0
  have j0 : (0 : Int) < (k : Int) := by omega
  have j1 : (1 : Int) < (k : Int) := by omega
  have hbig : k ≤ 9223372036854775807 := by omega
  clear hbk
  go_enter Try.func53, Try.ntmps53
  go_wp2
  go_region
  go_wp2
  refine bodyPost_ret (v := rowV x y (.slice (some ⟨g, 2, none⟩) (k - 2) (cap - 2))) (by simp [results, Try.results53, go_sem]) rfl ⟨rfl, (below_box w _).drew⟩
end Go.Proofs.Ytfpadcfahfanoaa

/- The document's own Put of layer 2. No law is proved here. -/
namespace Go.Proofs.Ytfpadcfahfanoaa
open Go.RowKit

set_option maxRecDepth 100000 in
set_option maxHeartbeats 400000 in
theorem refput_calls (a : Option Addr) (n c : Nat) (zs : List Int) (x : Nat) (hx : x < 18446744073709551616) (w : World) (hB : Bytes w (.slice a n c) zs) (hn : n = zs.length) (_hnc : n ≤ c) (h47 : n ≤ 140737488355000) :
    Calls Try.prog 47 #[.slice a n c, .int .u64 x] w (Made w (zs ++ PackMath.num x)) := by
  obtain ⟨i5, hi, hz0, hz1, hz2⟩ := info_parts info_u8
  have Hi := Lib.hid hi; clear hi
  have Hz0 := Lib.hid hz0; clear hz0
  have Hz1 := Lib.hid hz1; clear hz1
  have Hz2 := Lib.hid hz2; clear hz2
  have HB := Lib.hid hB; clear hB
  have Hn := Lib.hid hn; clear hn
  have Hx := Lib.hid (PackMath.num_len_64 x hx)
  have HX := Lib.hid hx; clear hx
  have HF0 := Lib.hid (fresh_empty w)
  have Hb0 := Lib.hid ((Below.refl w.heap.size w).alloc (Nat.le_refl _) (.cells #[] 5))
  go_enter Try.func47, Try.ntmps47
  go_wp2_with (at_builtin; refine wpList_append_more rfl (.tmp 7) (.tmp 8) 24 rfl w.heap.size 5 i5 Try.underlying24 Hi.out Hz0.out Hz1.out Hz2.out _ _ rfl HF0.out _ _ rfl (HB.out.later Hb0.out) (by have := Hn.out; simp; omega) (by simp) ?_; intro v1 w1 hF hB2; have HF1 := Lib.hid hF; have Hb1 := Lib.hid (Hb0.out.trans hB2); clear hF hB2)
  go_loopw [1, 5] (fun i v wr => ∃ (p : List Int) (r : Nat), i = .int .u64 r ∧ Hid (r < 18446744073709551616) ∧ Hid (PackMath.num x = p ++ PackMath.num r) ∧ Hid (Fresh w.heap.size 5 wr v (zs ++ p)) ∧ Hid (Below w.heap.size w wr)) (fun i _ _ => (intOf i).toNat)
  case atStart => exact ⟨[], x, rfl, HX, rfl, by have := HF1.out; rw [List.nil_append] at this; rw [List.append_nil]; exact this, Hb1.out⟩
  case round =>
    obtain ⟨p, r, rfl, Hr, Hp, HF, Hb⟩ := hrel
    have hlz := congrArg List.length Hp.out
    rw [List.length_append] at hlz
    have hlx := Hx.out
    have hlr := PackMath.num_pos r
    have hlen : (zs ++ p).length + 1 ≤ 140737488355328 := by rw [List.length_append, ← Hn.out]; omega
    have HL := Lib.hid hlen; clear hlen hlz hlx hlr
    have hw : IntKind.u64.wrap ((r : Int) / 128) = (r : Int) / 128 := by
      have := Hr.out
      rw [IntKind.wrap_u64]
      exact Int.emod_eq_of_lt (by omega) (by omega)
    by_cases hge : 128 ≤ r
    · have hq : ((r : Int) / 128 == 0) = false := beq_eq_false_iff_ne.2 (by omega)
      go_wp2_with (at_builtin; refine wpList_append_byte rfl (.tmp 21) (.tmp 24) 24 rfl w.heap.size 5 i5 Try.underlying24 Hi.out Hz0.out Hz1.out Hz2.out _ _ rfl (Tail.alloc (Or.inr HF.out) _) ((r : Int) % 128 + 128) (by omega) ⟨wr.heap.size, 0, none⟩ 1 rfl (cell_new _ _ _ _ _ _ rfl) HL.out (by have := Hb.out.size; simp; omega) ?_; intro v' w' hF hB2; have HF2 := Lib.hid hF; have HB2 := Lib.hid hB2; clear hF hB2)
      go_roundw
      case rel =>
        refine ⟨p ++ [((r % 128 + 128 : Nat) : Int)], r / 128, congrArg (Value.int IntKind.u64) (by omega), ?_, ?_, ?_, ?_⟩
        · show _ < _
          have := Hr.out
          omega
        · show _ = _
          rw [Hp.out, PackMath.num_ge hge]; simp
        · show Fresh _ _ _ _ _
          have := HF2.out
          rw [List.append_assoc] at this
          simpa using this
        · exact Hb.out.trans (((Below.refl _ _).alloc Hb.out.size _).trans HB2.out)
      case measure => simp [intOf]; omega
    · have hlt : r < 128 := by omega
      have hq : ((r : Int) / 128 == 0) = true := beq_iff_eq.2 (by omega)
      clear hge
      go_wp2_with (at_builtin; refine wpList_append_byte rfl (.tmp 17) (.tmp 19) 24 rfl w.heap.size 5 i5 Try.underlying24 Hi.out Hz0.out Hz1.out Hz2.out _ _ rfl (Tail.alloc (Or.inr HF.out) _) ((r : Int) % 128) (by omega) ⟨wr.heap.size, 0, none⟩ 1 rfl (cell_new _ _ _ _ _ _ rfl) HL.out (by have := Hb.out.size; simp; omega) ?_; intro v' w' hF hB2; have HF2 := Lib.hid hF; have HB2 := Lib.hid hB2; clear hF hB2)
      go_ret
      refine ⟨v', rfl, Hb.out.trans (((Below.refl _ _).alloc Hb.out.size _).trans HB2.out), ?_⟩
      rw [Hp.out, PackMath.num_lt hlt, ← List.append_assoc, show (r : Int) = (r : Int) % 128 by omega]
      exact HF2.out

end Go.Proofs.Ytfpadcfahfanoaa
