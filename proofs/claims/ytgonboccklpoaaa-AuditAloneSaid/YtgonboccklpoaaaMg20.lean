/- Merged texts: NumsPlain, OwnLow. No law is proved here. -/
import Derived.Test.YtgonboccklpoaaaMg3
import Derived.OwnWalk
import Derived.Lib.SmallJoins
import Derived.Test.YtgonboccklpoaaaRowWorld
import Derived.Test.YtgonboccklpoaaaAppend
/- A slice of numbers alone: of the call's own, what an append to it holds, cut at its beginning, as it came in. No law is proved here. -/
namespace Go.Proofs.Ytgonboccklpoaaa
open Go.ChangeShapes Go.WideShapes Go.ChangeAt Go.RowKit Go.Joins Go.Deep

theorem info_n64 : (Try.prog.info? 2).map (fun i => (i.zero, i.size, i.bytes)) = some (some (.int .i64 0), 1, 8) := by kernel_rfl
/-- one number in a block of its own is a slice of one -/
theorem one_n64 {w : World} {g : Nat} {x : Int} (h : Whole w g 2 #[.int .i64 x]) : Nums w (.slice (some ⟨g, 0, none⟩) 1 1) [x] := by
  refine ⟨show 1 ≤ 9223372036854775807 by decide, Or.inr ⟨g, 0, 1, rfl, Nat.le_refl _, fun i j hi hj => ?_⟩⟩
  have hi : i < 1 := hi
  obtain rfl : i = 0 := by omega
  obtain rfl : j = 0 := by omega
  exact h.cell 0
/-- numbers, written out in a block of their own -/
theorem lit_n64 {w : World} {g : Nat} {l : List Int} (h : Whole w g 2 (l.map (Value.int .i64)).toArray) (hl : l.length ≤ 1000000) : Nums w (.slice (some ⟨g, 0, none⟩) l.length l.length) l := by
  refine ⟨by omega, Or.inr ⟨g, 0, l.length, rfl, Nat.le_refl _, fun i j hi hj => ?_⟩⟩
  obtain rfl : j = 0 := by omega
  rw [Nat.mul_one, Nat.add_zero, Nat.zero_add, h.cell i]
  simp [hi]
theorem nums_both (l k : List Int) : (fun i (_ : Nat) => if i < l.length then Value.int .i64 (l[i]?.getD 0) else Value.int .i64 (k[i - l.length]?.getD 0)) = fun i _ => Value.int .i64 ((l ++ k)[i]?.getD 0) := by
  funext i _
  by_cases h : i < l.length
  · rw [if_pos h, List.getElem?_append_left h]
  · rw [if_neg h, List.getElem?_append_right (by omega)]
/-- a row of the call's own that holds numbers -/
abbrev OwnN (w : World) (base : Nat) (v : Value) (l : List Int) : Prop := w.ownsRow base 2 1 v l.length (flatCells 1 l.length fun i _ => .int .i64 (l[i]?.getD 0))
theorem OwnN.nums {w : World} {base : Nat} {v : Value} {l : List Int} (h : OwnN w base v l) (hb : l.length ≤ 9223372036854775807) : ∃ A C, v = .slice A l.length C ∧ Nums w (.slice A l.length C) l := by
  obtain ⟨A, C, hv, _, he⟩ := elems_of_own h hb
  exact ⟨A, C, hv, he⟩
theorem ownN_nil (w : World) : OwnN (w.alloc (.cells #[] 2)) w.heap.size (.slice (some ⟨w.heap.size, 0, none⟩) 0 0) [] :=
  own_whole (cs := #[]) (Whole.made w _ _) (Nat.le_refl _) rfl (by decide)
theorem ownN_later {w w' : World} {base : Nat} {v : Value} {l : List Int} (h : OwnN w base v l) (hb : Below w.heap.size w w') : OwnN w' base v l := own_later h hb
/-- THE APPEND of numbers to numbers of the call's own, as it runs -/
theorem run_append_nums {w : World} {base : Nat} {v : Value} {l k : List Int} {A : Option Addr} {m c : Nat} (hown : OwnN w base v l) (hE : Nums w (.slice A m c) k) (hm : m = k.length) (h : l.length + k.length ≤ 1000000) (hbase : base ≤ w.heap.size) :
    ∃ v' w', (Builtin.append_ #[31, 31] 31 #[v, .slice A m c]).run Try.prog w = .ok v' w' ∧ OwnN w' base v' (l ++ k) ∧ Below base w w' ∧ Grew w w' v v' := by
  subst hm
  obtain ⟨i5, hi, hz0, hz1, hz2⟩ := info_parts info_n64
  obtain ⟨v', w', h1, h2, h3, h4⟩ := run_append_elems (P := Try.prog) (w := w) 31 31 base 2 i5 _ 1 8 Try.underlying31 hi hz0 hz1 hz2 rfl (by decide)
    v l.length _ hown A k.length c _ hE (fun i j _ _ => rfl) (by unfold maxLen; omega) (by omega) hbase
  refine ⟨v', w', h1, ?_, h3, h4⟩
  rw [nums_both] at h2
  show OwnN w' base v' (l ++ k)
  unfold OwnN
  rw [List.length_append]
  exact h2
theorem Nums.cap {w : World} {a : Option Addr} {m c : Nat} {l : List Int} (h : Nums w (.slice a m c) l) : m ≤ c ∧ m = l.length := by
  obtain ⟨_, ⟨_, _, hv, _, h0⟩ | ⟨_, _, _, hv, hn, _⟩⟩ := h
  · simp only [Value.slice.injEq] at hv
    omega
  · simp only [Value.slice.injEq] at hv
    omega
/-- numbers without their first ones -/
theorem Nums.from {w : World} {b off m c j : Nat} {l : List Int} (h : Nums w (.slice (some ⟨b, off, none⟩) m c) l) (hj : j ≤ m) : Nums w (.slice (some ⟨b, off + j, none⟩) (m - j) (c - j)) (l.drop j) := by
  have hc := h.cap
  have hb := h.1
  unfold Nums
  rw [List.length_drop]
  refine ⟨by omega, ?_⟩
  by_cases h0 : l.length - j = 0
  · exact Or.inl ⟨_, c - j, by rw [show m - j = 0 by omega], (fun h => by cases h), h0⟩
  · refine Or.inr ⟨b, off + j, c - j, by rw [← hc.2], by omega, fun i k hi hk => ?_⟩
    obtain rfl : k = 0 := by omega
    obtain ⟨b', off', e, _, hcell⟩ := h.at (i := j + i) (by omega)
    simp only [Option.some.injEq, Addr.mk.injEq, and_true] at e
    obtain ⟨rfl, rfl⟩ := e
    rw [Nat.mul_one, Nat.add_zero, Nat.add_assoc, hcell]
    show _ = some (Value.int .i64 ((l.drop j)[i]?.getD 0))
    rw [List.getElem?_drop]
theorem cells_n64 : Try.prog.cellsOf 2 = 1 := by kernel_rfl
/-- numbers that came in -/
theorem open_numbers {H : Type} {enc : TypeId × Value → H} {W : World} {base : Nat} {v : Value} {d : DataW H} {p : List MemPlace} (hv : Value.okWide Try.prog W .any base 31 v)
    (h : DataW.Trod enc Try.prog W 0 (fun _ => true) true 31 v d p) : ∃ a n c l, v = .slice a n c ∧ n = l.length ∧ n ≤ c ∧ Nums W (.slice a n c) l := by
  obtain ⟨a, n, c, f, rfl, hnc, _, hE, hf⟩ := open_elems Try.underlying31 cells_n64 (by decide) hv h
  have key : ∀ i, ∃ x : Int, i < n → f i 0 = .int .i64 x := by
    intro i
    by_cases hi : i < n
    · obtain ⟨fu, x, hx⟩ := hf i hi
      obtain ⟨t, e0, _⟩ := DataW.trod_int Try.underlying2 hx
      have e1 : [f i 0] = [Value.int .i64 t] := e0
      simp only [List.cons.injEq, and_true] at e1
      exact ⟨t, fun _ => e1⟩
    · exact ⟨0, fun h => absurd h hi⟩
  obtain ⟨F, hF⟩ := Classical.axiomOfChoice key
  refine ⟨a, n, c, (List.range n).map F, rfl, by simp, hnc, ?_⟩
  unfold Nums
  rw [List.length_map, List.length_range]
  refine hE.congr fun i j hi hj => ?_
  obtain rfl : j = 0 := by omega
  rw [hF i hi, List.getElem?_map, List.getElem?_range hi]
  rfl
end Go.Proofs.Ytgonboccklpoaaa

/- Rows of the call's own: what is written below them, what they don't lie in. No function of the program in it. No law is proved here. -/
namespace Go.Proofs.Ytgonboccklpoaaa
open Go.RowKit

/-- a row of the call's own, a store ahead of it -/
theorem own_low {w : World} {base : Nat} {e : TypeId} {s n : Nat} {v : Value} {xs : List Value} (h : w.ownsRow base e s v n xs) {p : Addr} (hp : p.block < base) (u : Value) : (w.setCell p u).ownsRow base e s v n xs :=
  h.kept (grownBy_set w p u) (.inr fun e => by have := (h.lt _ e).1; omega)
theorem own_not {w : World} {base G : Nat} {e : TypeId} {s n : Nat} {v : Value} {xs : List Value} (h : w.ownsRow base e s v n xs) (hG : G < base) : v.ownBlock ≠ some G := fun e => by have := (h.lt _ e).1; omega
end Go.Proofs.Ytgonboccklpoaaa
