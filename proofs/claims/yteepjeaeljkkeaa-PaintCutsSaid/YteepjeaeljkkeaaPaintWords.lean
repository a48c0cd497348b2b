/- Books as bytes: what comes back; numbers of the call's own. No function of the program in it. No law is proved here. -/
import Derived.Test.YteepjeaeljkkeaaPaintMath
import Derived.Test.YteepjeaeljkkeaaHeldBooks
import Derived.Test.YteepjeaeljkkeaaBytesRun
namespace Go.Proofs.Yteepjeaeljkkeaa
open Go.RowKit

theorem elem_nums : Try.prog.underlying 37 = some (.slice (Try.prog.elem 37)) := by kernel_rfl
theorem size_nums (w : World) : (sizeOf (Try.prog.elem 37)).run Try.prog w = .ok 1 w := by kernel_rfl

/-- books and what is behind them, or none of both -/
def TookB (w : World) (x : Option (List Rw × List Int)) (e : Ending) (w' : World) : Prop :=
  (∃ l rest A C B D, x = some (l, rest) ∧ e = .returned (.tuple #[.slice A l.length C, .slice B rest.length D, .bool true]) ∧ Books w' (.slice A l.length C) l ∧ Bytes w' (.slice B rest.length D) rest ∧ rest.length ≤ D ∧ Below w.heap.size w w') ∨
  (x = none ∧ e = .returned (.tuple #[.slice none 0 0, .slice none 0 0, .bool false]) ∧ Below w.heap.size w w')

/-- one number more, behind numbers of the call's own -/
theorem nums_push {w : World} {base : Nat} {v : Value} {P : List Int} {k : Nat} (x : Int) (hk : P.length = k) (hown : w.ownsRow base 2 1 v k (P.map (Value.int .i64))) (hb : base ≤ w.heap.size) (h : k ≤ 1000000) :
    ∃ v' w', (Builtin.append_ #[37, 37] 37 #[v, .slice (some ⟨w.heap.size, 0, none⟩) 1 1]).run Try.prog (w.alloc (.cells #[.int .i64 x] 2)) = .ok v' w' ∧
      w'.ownsRow base 2 1 v' (k + 1) ((P ++ [x]).map (Value.int .i64)) ∧ Below base w w' ∧ Grew (w.alloc (.cells #[.int .i64 x] 2)) w' v v' := by
  subst hk
  obtain ⟨i0, hi, hz0, hz1, hz2⟩ := info_parts info_int64
  have hb1 : Below w.heap.size w (w.alloc (.cells #[.int .i64 x] 2)) := below_box w _
  have e : P.map (Value.int .i64) = flatCells 1 P.length (fun i _ => .int .i64 ((P ++ [x])[i]?.getD 0)) := by
    rw [flat_one]
    unfold flatCells
    rw [List.flatMap_def, List.flatMap_def]
    congr 1
    apply List.map_congr_left
    intro i hi
    have := List.mem_range.1 hi
    simp [List.getElem?_append_left this]
  obtain ⟨v', w', hrun, q1, q2, q3⟩ := run_append_elems (P := Try.prog) (w := w.alloc (.cells #[.int .i64 x] 2)) 37 37 base 2 i0 _ 1 8 Try.underlying37 hi hz0 hz1 hz2 rfl (by decide)
    v P.length (fun i _ => .int .i64 ((P ++ [x])[i]?.getD 0)) (by rw [← e]; exact own_later hown hb1) (some ⟨w.heap.size, 0, none⟩) 1 1 (fun _ _ => .int .i64 x) (one_num (Whole.made w _ _)) (fun _ _ _ _ => rfl) (by unfold maxLen; omega) (by omega) (by have := hb1.size; omega)
  refine ⟨v', w', hrun, ?_, (hb1.mono hb).trans q2, q3⟩
  rw [flat_push (k := P.length) (f := fun i _ => .int .i64 ((P ++ [x])[i]?.getD 0)) (g := fun _ _ => .int .i64 x) (by simp)] at q1
  rw [flat_one, List.length_append, List.length_singleton]
  exact q1

theorem three {w : World} {base : Nat} {v : Value} {P : List Int} {k : Nat} (hown : w.ownsRow base 2 1 v k (P.map (Value.int .i64))) (hk : P.length = k) (h2 : 2 ≤ k) :
    ∃ g cap, v = .slice (some ⟨g, 0, none⟩) k cap ∧ base ≤ g ∧ g < w.heap.size ∧ k ≤ cap ∧ w.cell? ⟨g, 0, none⟩ = some (.int .i64 (P[0]?.getD 0)) ∧ w.cell? ⟨g, 1, none⟩ = some (.int .i64 (P[1]?.getD 0)) ∧ NumsAt w g 2 (P.drop 2) := by
  have hl := hown.1
  rcases hown.2 with ⟨_, h0⟩ | ⟨g, cap, cur, rfl, hg, hh, hn, hm, h5, h6⟩
  · omega
  · have hc : ∀ j, j < k → w.cell? ⟨g, j, none⟩ = some (.int .i64 (P[j]?.getD 0)) := by
      intro j hj
      rw [Whole.cell (w := w) (g := g) (t := 2) (cs := cur) hh]
      have : (cur.toList.take (k * 1))[j]? = (P.map (Value.int .i64))[j]? := by rw [h6]
      rw [List.getElem?_take_of_lt (by omega), Array.getElem?_toList] at this
      rw [this]
      simp [List.getElem?_eq_getElem (show j < P.length by omega)]
    refine ⟨g, cap, rfl, hg, (Array.getElem?_eq_some_iff.1 hh).1, hn, hc 0 (by omega), hc 1 (by omega), (Array.getElem?_eq_some_iff.1 hh).1, by rw [List.length_drop]; unfold maxLen at hm; omega, fun i hi => ?_⟩
    rw [List.length_drop] at hi
    rw [hc (2 + i) (by omega), List.getElem?_drop]

/-- bytes, and what was there has not turned -/
def PutB (w : World) (zs : List Int) (e : Ending) (w' : World) : Prop := ∃ A m C, e = .returned (.slice A m C) ∧ m = zs.length ∧ m ≤ C ∧ Bytes w' (.slice A m C) zs ∧ Below w.heap.size w w'
end Go.Proofs.Yteepjeaeljkkeaa
