/- Notes of the call's own: what an append to it holds. No law is proved here. -/
import Derived.Test.YtbpmonbehibgdaaClaimWords
import Derived.OwnWalk
namespace Go.Proofs.Ytbpmonbehibgdaa
open Go.RowKit

theorem info_nt : (Try.prog.info? 47).map (fun i => (i.zero, i.size, i.bytes)) = some (some (.agg #[.int .i64 0, .int .i64 0, .int .i64 0, .int .i64 0, .int .i64 0, .int .i64 0, .int .i64 0]), 7, 56) := by kernel_rfl
/-- one request in a block of its own is a slice of one -/
theorem one_nt {w : World} {g : Nat} {x : Nt} (h : Whole w g 47 (ntCells x)) : Notes w (.slice (some ⟨g, 0, none⟩) 1 1) [x] := by
  refine ⟨show 1 ≤ 9223372036854775807 by decide, Or.inr ⟨g, 0, 1, rfl, Nat.le_refl _, fun i j hi hj => ?_⟩⟩
  have hi : i < 1 := hi
  obtain rfl : i = 0 := by omega
  have hc := h.cell
  match j, hj with
  | 0, _ => exact hc 0
  | 1, _ => exact hc 1
  | 2, _ => exact hc 2
  | 3, _ => exact hc 3
  | 4, _ => exact hc 4
  | 5, _ => exact hc 5
  | 6, _ => exact hc 6
theorem ntc_one (x : Nt) (j : Nat) : (ntc x j).oneCell' = true := by unfold ntc; rfl
/-- the cells of two lines, one behind the other -/
theorem nt_both (l k : List Nt) : (fun i j => if i < l.length then ntc (ntAt l i) j else ntc (ntAt k (i - l.length)) j) = fun i j => ntc (ntAt (l ++ k) i) j := by
  funext i j
  by_cases h : i < l.length
  · rw [if_pos h]; unfold ntAt; rw [List.getElem?_append_left h]
  · rw [if_neg h]; unfold ntAt; rw [List.getElem?_append_right (by omega)]
/-- a row of the call's own that holds a line -/
abbrev OwnNt (w : World) (base : Nat) (v : Value) (l : List Nt) : Prop := w.ownsRow base 47 7 v l.length (flatCells 7 l.length fun i j => ntc (ntAt l i) j)
theorem OwnNt.notes {w : World} {base : Nat} {v : Value} {l : List Nt} (h : OwnNt w base v l) (hb : l.length ≤ 9223372036854775807) : ∃ A C, v = .slice A l.length C ∧ Notes w (.slice A l.length C) l := by
  obtain ⟨A, C, hv, _, he⟩ := elems_of_own h hb
  exact ⟨A, C, hv, he⟩
theorem ownNt_nil (w : World) : OwnNt (w.alloc (.cells #[] 47)) w.heap.size (.slice (some ⟨w.heap.size, 0, none⟩) 0 0) [] :=
  own_whole (cs := #[]) (Whole.made w _ _) (Nat.le_refl _) rfl (by decide)
theorem ownNt_later {w w' : World} {base : Nat} {v : Value} {l : List Nt} (h : OwnNt w base v l) (hb : Below w.heap.size w w') : OwnNt w' base v l := own_later h hb
/-- THE APPEND of a line to a line of the call's own, as it runs -/
theorem run_append_nt {w : World} {base : Nat} {v : Value} {l k : List Nt} {A : Option Addr} {m c : Nat} (hown : OwnNt w base v l) (hE : Notes w (.slice A m c) k) (hm : m = k.length) (h : l.length + k.length ≤ 1000000) (hbase : base ≤ w.heap.size) :
    ∃ v' w', (Builtin.append_ #[24, 24] 24 #[v, .slice A m c]).run Try.prog w = .ok v' w' ∧ OwnNt w' base v' (l ++ k) ∧ Below base w w' ∧ Grew w w' v v' := by
  subst hm
  obtain ⟨i5, hi, hz0, hz1, hz2⟩ := info_parts info_nt
  obtain ⟨v', w', h1, h2, h3, h4⟩ := run_append_elems (P := Try.prog) (w := w) 24 24 base 47 i5 _ 7 56 Try.underlying24 hi hz0 hz1 hz2 rfl (by decide)
    v l.length _ hown A k.length c _ hE (fun i j _ _ => ntc_one _ j) (by unfold maxLen; omega) (by omega) hbase
  refine ⟨v', w', h1, ?_, h3, h4⟩
  rw [nt_both] at h2
  show OwnNt w' base v' (l ++ k)
  unfold OwnNt
  rw [List.length_append]
  exact h2
end Go.Proofs.Ytbpmonbehibgdaa
