/- A slice of structs that came in, cell by cell; nil and empty in one. No law is proved here. -/
import Derived.Test.YtbpmonbehibgdaaMg1
import Derived.Deep.Slices
import Derived.Deep.Fields
import Derived.ChangeSame
namespace Go.Proofs.Ytbpmonbehibgdaa
open Go.ChangeShapes Go.WideShapes Go.ChangeAt Go.RowKit

/-- A SLICE VALUE of n elements of sz cells each: cell j of element i is f i j. -/
def Elems (w : World) (v : Value) (sz n : Nat) (f : Nat → Nat → Value) : Prop :=
  n ≤ 9223372036854775807 ∧ ((∃ a cap, v = .slice a 0 cap ∧ (a = none → cap = 0) ∧ n = 0) ∨
    ∃ b off cap, v = .slice (some ⟨b, off, none⟩) n cap ∧ n ≤ cap ∧ ∀ i j, i < n → j < sz → w.cell? ⟨b, off + (i * sz + j), none⟩ = some (f i j))

theorem Elems.later {w w' : World} {v : Value} {sz n : Nat} {f : Nat → Nat → Value} (h : Elems w v sz n f) (hb : Below w.heap.size w w') : Elems w' v sz n f := by
  obtain ⟨h1, h3⟩ := h
  refine ⟨h1, ?_⟩
  rcases h3 with h3 | ⟨b, off, cap, hv, hn, hc⟩
  · exact Or.inl h3
  · exact Or.inr ⟨b, off, cap, hv, hn, fun i j hi hj => cell_later hb (hc i j hi hj)⟩

theorem Elems.congr {w : World} {v : Value} {sz n : Nat} {f g : Nat → Nat → Value} (h : Elems w v sz n f) (hfg : ∀ i j, i < n → j < sz → f i j = g i j) : Elems w v sz n g := by
  obtain ⟨h1, h3⟩ := h
  refine ⟨h1, ?_⟩
  rcases h3 with h3 | ⟨b, off, cap, hv, hn, hc⟩
  · exact Or.inl h3
  · exact Or.inr ⟨b, off, cap, hv, hn, fun i j hi hj => by rw [hc i j hi hj, hfg i j hi hj]⟩

theorem elems_nil (w : World) (a : Option Addr) (c sz : Nat) (f : Nat → Nat → Value) (h : a = none → c = 0) : Elems w (.slice a 0 c) sz 0 f := ⟨by decide, Or.inl ⟨a, c, rfl, h, rfl⟩⟩

/-- An element, where there is one. -/
theorem Elems.at {w : World} {a : Option Addr} {m c sz n : Nat} {f : Nat → Nat → Value} (h : Elems w (.slice a m c) sz n f) {i : Nat} (hi : i < n) :
    ∃ b off, a = some ⟨b, off, none⟩ ∧ ∀ j, j < sz → w.cell? ⟨b, off + (i * sz + j), none⟩ = some (f i j) := by
  obtain ⟨_, ⟨_, _, _, _, h0⟩ | ⟨b, off, cap, hv, _, hc⟩⟩ := h
  · omega
  · simp only [Value.slice.injEq] at hv
    exact ⟨b, off, hv.1, fun j hj => hc i j hi hj⟩
theorem Elems.len {w : World} {a : Option Addr} {m c sz n : Nat} {f : Nat → Nat → Value} (h : Elems w (.slice a m c) sz n f) : m = n := by
  obtain ⟨_, ⟨_, _, hv, _, h0⟩ | ⟨b, off, cap, hv, _, hc⟩⟩ := h
  · simp only [Value.slice.injEq] at hv; omega
  · simp only [Value.slice.injEq] at hv; omega

/-- A slice of structs that came in, or lies in what came in. -/
theorem open_elems_in {H : Type} {enc : TypeId × Value → H} {P : Program} {t e : TypeId} {sz : Nat} (ht : P.underlying t = some (.slice e)) (hC : P.cellsOf e = sz) (hsz : 0 < sz)
    {W : World} {v : Value} {d : DataW H} {ps : List MemPlace} (hval : ∃ a len cap, v = .slice a len cap) (h : DataW.Trod enc P W 0 (fun _ => true) true t v d ps) :
    ∃ a n c f, v = .slice a n c ∧ n ≤ c ∧ c ≤ maxLen ∧ Elems W (.slice a n c) sz n f ∧
      ∀ i, i < n → ∃ fuel x, DataW.trod enc P W 0 (fun _ => true) true fuel e ((List.range sz).map (f i)) = some x := by
  obtain ⟨a0, len, cap, rfl⟩ := hval
  obtain ⟨fuel, hf⟩ := h
  rcases Go.Deep.open_slice ht hf with ⟨hcs, hx⟩ | ⟨a, len', cap', m, n, D, Pl, hcs, _, hl, hm, hmm, hx, hcell⟩
  · simp only [Value.cells, List.cons.injEq, Value.slice.injEq, and_true] at hcs
    obtain ⟨rfl, rfl, rfl⟩ := hcs
    exact ⟨none, 0, 0, fun _ _ => .bool false, rfl, Nat.le_refl _, by decide, elems_nil W _ _ _ _ (fun _ => rfl), fun i hi => absurd hi (by omega)⟩
  · simp only [Value.cells, List.cons.injEq, Value.slice.injEq, and_true] at hcs
    obtain ⟨rfl, rfl, rfl⟩ := hcs
    simp only [if_true] at hmm
    rw [hC] at hcell
    have hspot : 0 < len → a.spot = none := fun h0 => by
      obtain ⟨cs', h1, _⟩ := hcell 0 (by omega)
      obtain ⟨_, hlen, hat⟩ := World.cells?_some h1
      have h2 := hat 0 hsz
      rw [List.getElem?_eq_getElem (by omega)] at h2
      simpa [Addr.add] using World.cell?_spot h2
    have hex : ∀ i, ∃ cs' : List Value, i < len → (cs'.length = sz ∧ (∀ j, j < sz → W.cell? ((a.add (i * sz)).add j) = cs'[j]?) ∧ ∃ fuel x, DataW.trod enc P W 0 (fun _ => true) true fuel e cs' = some x) := by
      intro i
      by_cases hi : i < len
      · obtain ⟨cs', h1, h2⟩ := hcell i (by omega)
        obtain ⟨_, hlen, hat⟩ := World.cells?_some h1
        exact ⟨cs', fun _ => ⟨hlen, hat, n, _, h2⟩⟩
      · exact ⟨[], fun h => absurd h hi⟩
    obtain ⟨F, hF⟩ := Classical.axiomOfChoice hex
    refine ⟨some a, len, cap, fun i j => (F i).getD j (.bool false), rfl, hl, hm, ⟨by unfold maxLen at hm; omega, ?_⟩, fun i hi => ?_⟩
    · by_cases h0 : len = 0
      · subst h0
        exact Or.inl ⟨some a, cap, rfl, (fun h => by cases h), rfl⟩
      · have hs := hspot (by omega)
        obtain ⟨b, off, spot⟩ := a
        simp only at hs
        subst hs
        refine Or.inr ⟨b, off, cap, rfl, hl, fun i j hi hj => ?_⟩
        obtain ⟨h1, h2, _⟩ := hF i hi
        have := h2 j hj
        rw [add_plain, add_plain] at this
        rw [show off + (i * sz + j) = off + i * sz + j by omega, this, List.getElem?_eq_getElem (by omega)]
        simp [List.getD_eq_getElem?_getD, List.getElem?_eq_getElem (show j < (F i).length by omega)]
    · obtain ⟨h1, _, fu, x, h3⟩ := hF i hi
      refine ⟨fu, x, ?_⟩
      have : (List.range sz).map (fun j => (F i).getD j (.bool false)) = F i := by
        apply List.ext_getElem (by simp [h1])
        intro k hk1 hk2
        simp [List.getD_eq_getElem?_getD, List.getElem?_eq_getElem hk2]
      rw [this]; exact h3
/-- A slice of structs that came in. -/
theorem open_elems {H : Type} {enc : TypeId × Value → H} {P : Program} {t e : TypeId} {sz : Nat} (ht : P.underlying t = some (.slice e)) (hC : P.cellsOf e = sz) (hsz : 0 < sz)
    {W : World} {base : Nat} {v : Value} {d : DataW H} {ps : List MemPlace} (hval : Value.okWide P W .any base t v) (h : DataW.Trod enc P W 0 (fun _ => true) true t v d ps) :
    ∃ a n c f, v = .slice a n c ∧ n ≤ c ∧ c ≤ maxLen ∧ Elems W (.slice a n c) sz n f ∧
      ∀ i, i < n → ∃ fuel x, DataW.trod enc P W 0 (fun _ => true) true fuel e ((List.range sz).map (f i)) = some x := open_elems_in ht hC hsz (okWide_slice ht hval) h
/-- a value that is told as a slice is one -/
theorem slice_of_trod {H : Type} {enc : TypeId × Value → H} {P : Program} {t e : TypeId} (ht : P.underlying t = some (.slice e)) {W : World} {fuel : Nat} {v : Value} {x : DataW H × List MemPlace}
    (h : DataW.trod enc P W 0 (fun _ => true) true fuel t [v] = some x) : ∃ a len cap, v = .slice a len cap := by
  rcases Go.Deep.open_slice ht h with ⟨hcs, _⟩ | ⟨a, len, cap, m, n, D, Pl, hcs, _⟩
  · simp only [List.cons.injEq, and_true] at hcs
    exact ⟨none, 0, 0, hcs⟩
  · simp only [List.cons.injEq, and_true] at hcs
    exact ⟨some a, len, cap, hcs⟩
end Go.Proofs.Ytbpmonbehibgdaa
