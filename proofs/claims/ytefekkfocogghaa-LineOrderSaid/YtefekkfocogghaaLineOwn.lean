/- A line of the call's own: what an append to it holds. No law is proved here. -/
import Derived.Test.YtefekkfocogghaaRqCells
import Derived.OwnWalk
namespace Go.Proofs.Ytefekkfocogghaa
open Go.RowKit

theorem info_rq : (Try.prog.info? 28).map (fun i => (i.zero, i.size, i.bytes)) = some (some (.agg #[.int .i64 0, .int .i64 0, .int .i64 0]), 3, 24) := by kernel_rfl
/-- one request in a block of its own is a slice of one -/
theorem one_rq {w : World} {g : Nat} {x : Rq} (h : Whole w g 28 (rqCells x)) : Line w (.slice (some ⟨g, 0, none⟩) 1 1) [x] := by
  refine ⟨show 1 ≤ 9223372036854775807 by decide, Or.inr ⟨g, 0, 1, rfl, Nat.le_refl _, fun i j hi hj => ?_⟩⟩
  have hi : i < 1 := hi
  obtain rfl : i = 0 := by omega
  have hc := h.cell
  match j, hj with
  | 0, _ => exact hc 0
  | 1, _ => exact hc 1
  | 2, _ => exact hc 2
theorem rqc_one (x : Rq) (j : Nat) : (rqc x j).oneCell' = true := by unfold rqc; rfl
/-- the cells of two lines, one behind the other -/
theorem rq_both (l k : List Rq) : (fun i j => if i < l.length then rqc (rqAt l i) j else rqc (rqAt k (i - l.length)) j) = fun i j => rqc (rqAt (l ++ k) i) j := by
  funext i j
  by_cases h : i < l.length
  · rw [if_pos h]; unfold rqAt; rw [List.getElem?_append_left h]
  · rw [if_neg h]; unfold rqAt; rw [List.getElem?_append_right (by omega)]
/-- a row of the call's own that holds a line -/
abbrev OwnQ (w : World) (base : Nat) (v : Value) (l : List Rq) : Prop := w.ownsRow base 28 3 v l.length (flatCells 3 l.length fun i j => rqc (rqAt l i) j)
theorem OwnQ.line {w : World} {base : Nat} {v : Value} {l : List Rq} (h : OwnQ w base v l) (hb : l.length ≤ 9223372036854775807) : ∃ A C, v = .slice A l.length C ∧ Line w (.slice A l.length C) l := by
  obtain ⟨A, C, hv, _, he⟩ := elems_of_own h hb
  exact ⟨A, C, hv, he⟩
theorem ownQ_nil (w : World) : OwnQ (w.alloc (.cells #[] 28)) w.heap.size (.slice (some ⟨w.heap.size, 0, none⟩) 0 0) [] :=
  own_whole (cs := #[]) (Whole.made w _ _) (Nat.le_refl _) rfl (by decide)
theorem ownQ_later {w w' : World} {base : Nat} {v : Value} {l : List Rq} (h : OwnQ w base v l) (hb : Below w.heap.size w w') : OwnQ w' base v l := own_later h hb
/-- THE APPEND of a line to a line of the call's own, as it runs -/
theorem run_append_line {w : World} {base : Nat} {v : Value} {l k : List Rq} {A : Option Addr} {m c : Nat} (hown : OwnQ w base v l) (hE : Line w (.slice A m c) k) (hm : m = k.length) (h : l.length + k.length ≤ 1000000) (hbase : base ≤ w.heap.size) :
    ∃ v' w', (Builtin.append_ #[24, 24] 24 #[v, .slice A m c]).run Try.prog w = .ok v' w' ∧ OwnQ w' base v' (l ++ k) ∧ Below base w w' ∧ Grew w w' v v' := by
  subst hm
  obtain ⟨i5, hi, hz0, hz1, hz2⟩ := info_parts info_rq
  obtain ⟨v', w', h1, h2, h3, h4⟩ := run_append_elems (P := Try.prog) (w := w) 24 24 base 28 i5 _ 3 24 Try.underlying24 hi hz0 hz1 hz2 rfl (by decide)
    v l.length _ hown A k.length c _ hE (fun i j _ _ => rqc_one _ j) (by unfold maxLen; omega) (by omega) hbase
  refine ⟨v', w', h1, ?_, h3, h4⟩
  rw [rq_both] at h2
  show OwnQ w' base v' (l ++ k)
  unfold OwnQ
  rw [List.length_append]
  exact h2
/-- one request in a block of its own, which is neither of the blocks of e0 (till d2) and e2 -/
def OneQ (w : World) (d0 d2 : Bool) (e0 e2 e4 : Value) (x : Rq) : Prop :=
  ∃ g, e4 = .slice (some ⟨g, 0, none⟩) 1 1 ∧ Whole w g 28 (rqCells x) ∧ (d0 = true → d2 = false → e0.ownBlock ≠ some g) ∧ (d2 = true → e2.ownBlock ≠ some g)
theorem OneQ.made0 {w w' : World} {d0 d2 : Bool} {e0 e2 e4 : Value} {x : Rq} (h : OneQ w d0 d2 e0 e2 e4 x) (hb : Below w.heap.size w w') : OneQ w' true d2 (.slice (some ⟨w.heap.size, 0, none⟩) 0 0) e2 e4 x := by
  obtain ⟨g, h1, h2, _, h4⟩ := h
  refine ⟨g, h1, h2.later hb h2.lt, fun _ _ e => ?_, h4⟩
  have hlt := h2.lt
  have : w.heap.size = g := by simpa [Value.ownBlock] using e
  omega
theorem OneQ.grown {w w' : World} {d0 : Bool} {e0 e2 e4 v : Value} {x : Rq} (h : OneQ w d0 false e0 e2 e4 x) (h0 : d0 = true) (hg : Grew w w' e0 v) : OneQ w' d0 true e0 v e4 x := by
  obtain ⟨g, h1, h2, h3, _⟩ := h
  obtain ⟨k1, k2⟩ := hg.whole h2 (h3 h0 rfl)
  exact ⟨g, h1, k1, fun _ h => (nomatch h), fun _ => k2⟩
theorem OneQ.made {w w' : World} {d0 d2 : Bool} {e0 e2 : Value} {x : Rq} (hw : Whole w' w.heap.size 28 (rqCells x)) (h0 : d0 = true → d2 = false → e0.ownBlock ≠ some w.heap.size) (h2 : d2 = true → e2.ownBlock ≠ some w.heap.size) :
    OneQ w' d0 d2 e0 e2 (.slice (some ⟨w.heap.size, 0, none⟩) 1 1) x := ⟨_, rfl, hw, h0, h2⟩
theorem OneQ.line {w : World} {d0 d2 : Bool} {e0 e2 e4 : Value} {x : Rq} (h : OneQ w d0 d2 e0 e2 e4 x) : ∃ g, e4 = .slice (some ⟨g, 0, none⟩) 1 1 ∧ Line w (.slice (some ⟨g, 0, none⟩) 1 1) [x] := by
  obtain ⟨g, h1, h2, _⟩ := h
  exact ⟨g, h1, one_rq h2⟩
end Go.Proofs.Ytefekkfocogghaa
