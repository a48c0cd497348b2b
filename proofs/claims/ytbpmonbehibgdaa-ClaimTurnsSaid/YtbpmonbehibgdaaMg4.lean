/- Merged texts: Nums, NumsOpen, CfOpen. No law is proved here. -/
import Derived.Test.YtbpmonbehibgdaaAppend
import Derived.Lib.SmallJoins
import Derived.Test.YtbpmonbehibgdaaMg1
import Derived.Test.YtbpmonbehibgdaaElems
/- A slice of numbers, nil and empty in one. No law is proved here. -/
namespace Go.Proofs.Ytbpmonbehibgdaa
open Go.RowKit

/-- A slice of numbers. -/
def Nums (w : World) (v : Value) (l : List Int) : Prop := Elems w v 1 l.length (fun i _ => .int .i64 (l[i]?.getD 0))
theorem Nums.later {w w' : World} {v : Value} {l : List Int} (h : Nums w v l) (hb : Below w.heap.size w w') : Nums w' v l := Elems.later h hb
/-- a number, where there is one -/
theorem Nums.at {w : World} {a : Option Addr} {m c : Nat} {l : List Int} (h : Nums w (.slice a m c) l) {i : Nat} (hi : i < l.length) :
    ∃ b off, a = some ⟨b, off, none⟩ ∧ b < w.heap.size ∧ w.cell? ⟨b, off + i, none⟩ = some (.int .i64 (l[i]?.getD 0)) := by
  obtain ⟨b, off, e, hc⟩ := Elems.at h hi
  have := hc 0 (by omega)
  rw [Nat.mul_one, Nat.add_zero] at this
  exact ⟨b, off, e, World.block_lt_of_cell? w _ this, this⟩

end Go.Proofs.Ytbpmonbehibgdaa

/- A slice of numbers that came in. No law is proved here. -/
namespace Go.Proofs.Ytbpmonbehibgdaa
open Go.ChangeShapes Go.WideShapes Go.ChangeAt Go.RowKit Go.Joins Go.Deep

theorem cells_row : Try.prog.cellsOf 71 = 3 := by kernel_rfl
theorem cells_int64 : Try.prog.cellsOf 2 = 1 := by kernel_rfl

theorem open_nums {H : Type} {enc : TypeId × Value → H} {W : World} {v : Value} {n : Nat} {y : DataW H × List MemPlace} (hf : DataW.trod enc Try.prog W 0 (fun _ => true) true n 69 [v] = some y) :
    ∃ a m c l, v = .slice a m c ∧ m = l.length ∧ Nums W (.slice a m c) l := by
  rcases open_ints Try.underlying69 Try.underlying2 cells_int64 hf with ⟨hcs, hx⟩ | ⟨a, len, cap, zs, hcs, _, hl, hm, hz, hx, hcell, hwz⟩
  · simp only [List.cons.injEq, and_true] at hcs
    exact ⟨none, 0, 0, [], hcs, rfl, elems_nil W _ _ _ _ (fun _ => rfl)⟩
  · simp only [List.cons.injEq, and_true] at hcs
    subst hcs
    simp only [if_true] at hz
    have hlen : (zs.take len).length = len := by simp; omega
    refine ⟨some a, len, cap, zs.take len, rfl, hlen.symm, ?_⟩
    unfold Nums
    rw [hlen]
    refine ⟨by unfold maxLen at hm; omega, ?_⟩
    obtain ⟨b, off, spot⟩ := a
    by_cases h0 : len = 0
    · subst h0
      exact Or.inl ⟨_, cap, rfl, (fun h => by cases h), rfl⟩
    · have hspot : spot = none := by simpa [Addr.add] using World.cell?_spot (hcell 0 (by omega))
      subst hspot
      refine Or.inr ⟨b, off, cap, rfl, hl, fun i j hi hj => ?_⟩
      obtain rfl : j = 0 := by omega
      have := hcell i (by omega)
      rw [Nat.mul_one, Nat.add_zero, ← add_plain, this]
      simp [List.getD_eq_getElem?_getD, hi]

end Go.Proofs.Ytbpmonbehibgdaa

/- A config that came in. No law is proved here. -/
namespace Go.Proofs.Ytbpmonbehibgdaa
open Go.ChangeShapes Go.WideShapes Go.ChangeAt Go.RowKit Go.Deep

theorem cells_config : Try.prog.cellsOf 23 = 6 := by kernel_rfl
set_option maxRecDepth 100000 in
theorem open_config {H : Type} {enc : TypeId × Value → H} {W : World} {base : Nat} {v : Value} {d : DataW H} {p : List MemPlace} (hv : Value.okWide Try.prog W .any base 23 v)
    (h : DataW.Trod enc Try.prog W 0 (fun _ => true) true 23 v d p) : ∃ c : Cf, v = cfV c := by
  obtain ⟨cs, rfl, hsz⟩ := okWide_struct Try.underlying23 hv
  obtain ⟨fuel, hf⟩ := h
  obtain ⟨xs, m, _, _, _, hlen, hat⟩ := DataW.trod_struct Try.underlying23 hf
  rw [cells_config] at hsz
  have key : ∀ j (hj : j < cs.size), ∃ x, cs[j] = .int .i64 x := by
    intro j hj
    have hjx : j < xs.length := by rw [hlen]; show j < 6; omega
    have hd : ∀ (a : List Value), a = (Value.agg cs).cells.toList → a.length = 6 → ∀ i, i < 6 → (a.drop i).take 1 = [a[i]?.getD (.bool false)] := by
      intro a _ ha i hi
      rw [List.drop_eq_getElem_cons (by omega), List.take_succ_cons, List.take_zero, List.getElem?_eq_getElem (by omega)]; rfl
    have hcl : ((Value.agg cs).cells.toList).length = 6 := by
      show cs.toList.length = 6
      rw [Array.length_toList]; exact hsz
    have hj6 : j < 6 := by omega
    have fin : ∀ i t, i < 6 → DataW.trod enc Try.prog W 0 (fun _ => true) true m t (((Value.agg cs).cells.toList.drop i).take 1) = xs[i]? → (t = 3 ∨ t = 2) → ∃ x, cs[i]?.getD (.bool false) = .int .i64 x := by
      intro i t hi ht hk
      rw [hd _ rfl hcl i hi, List.getElem?_eq_getElem (l := xs) (by rw [hlen]; exact hi)] at ht
      rcases hk with rfl | rfl
      · obtain ⟨x, e, _⟩ := DataW.trod_int Try.underlying3 ht
        simp only [List.cons.injEq, and_true] at e
        exact ⟨x, by rw [← e]; show _ = (cs.toList[i]?).getD _; rw [Array.getElem?_toList]⟩
      · obtain ⟨x, e, _⟩ := DataW.trod_int Try.underlying2 ht
        simp only [List.cons.injEq, and_true] at e
        exact ⟨x, by rw [← e]; show _ = (cs.toList[i]?).getD _; rw [Array.getElem?_toList]⟩
    have : ∃ x, cs[j]?.getD (.bool false) = .int .i64 x := by
      match j, hj6 with
      | 0, h => exact fin 0 _ h (hat 0 _ rfl) (Or.inl rfl)
      | 1, h => exact fin 1 _ h (hat 1 _ rfl) (Or.inl rfl)
      | 2, h => exact fin 2 _ h (hat 2 _ rfl) (Or.inl rfl)
      | 3, h => exact fin 3 _ h (hat 3 _ rfl) (Or.inl rfl)
      | 4, h => exact fin 4 _ h (hat 4 _ rfl) (Or.inr rfl)
      | 5, h => exact fin 5 _ h (hat 5 _ rfl) (Or.inr rfl)
    obtain ⟨x, e⟩ := this
    rw [Array.getElem?_eq_getElem hj] at e
    exact ⟨x, e⟩
  obtain ⟨l⟩ := cs
  match l, hsz with
  | [v0, v1, v2, v3, v4, v5], _ =>
    obtain ⟨x0, e0⟩ := key 0 (by simp)
    obtain ⟨x1, e1⟩ := key 1 (by simp)
    obtain ⟨x2, e2⟩ := key 2 (by simp)
    obtain ⟨x3, e3⟩ := key 3 (by simp)
    obtain ⟨x4, e4⟩ := key 4 (by simp)
    obtain ⟨x5, e5⟩ := key 5 (by simp)
    refine ⟨⟨x0, x1, x2, x3, x4, x5⟩, ?_⟩
    simp at e0 e1 e2 e3 e4 e5
    rw [e0, e1, e2, e3, e4, e5]
end Go.Proofs.Ytbpmonbehibgdaa
