/- A slice of structs that came in, each datum told; that it is no more than memory can hold. No function of the program in it. No law is proved here. -/
import Derived.Test.YtkkhecdmjcffjaaElems
import Derived.Lib.SmallJoins
import Derived.SizedLaws
namespace Go.Proofs.Ytkkhecdmjcffjaa
open Go.ChangeShapes Go.WideShapes Go.ChangeAt Go.RowKit Go.Joins Go.Deep

/-- no part of a datum takes more than memory can hold -/
def Held {H : Type} (t : TypeId) (d : DataW H) : Prop := ∀ n ∈ d.weights Try.prog t, n ≤ reachBytes

theorem weightsAll_mem {H : Type} {P : Program} {e : TypeId} : ∀ {ds : List (DataW H)} {d : DataW H}, d ∈ ds → ∀ n ∈ d.weights P e, n ∈ DataW.weightsAll P e ds
  | [], _, h, _, _ => by cases h
  | d' :: r, d, h, n, hn => by
    rw [DataW.weightsAll, List.mem_append]
    rcases List.mem_cons.1 h with rfl | h
    · exact Or.inl hn
    · exact Or.inr (weightsAll_mem h n hn)

/-- A slice of structs that came in, each element's datum told. -/
theorem open_elems_data_in {H : Type} {enc : TypeId × Value → H} {P : Program} {t e : TypeId} {sz : Nat} (ht : P.underlying t = some (.slice e)) (hC : P.cellsOf e = sz) (hsz : 0 < sz)
    {W : World} {v : Value} {d : DataW H} {ps : List MemPlace} (hval : ∃ a len cap, v = .slice a len cap) (h : DataW.Trod enc P W 0 (fun _ => true) true t v d ps) :
    ∃ a n c f D S, v = .slice a n c ∧ n ≤ c ∧ c ≤ maxLen ∧ Elems W (.slice a n c) sz n f ∧ (0 < n → d = .slice ((List.range n).map D) S) ∧
      ∀ i, i < n → ∃ fuel p, DataW.trod enc P W 0 (fun _ => true) true fuel e ((List.range sz).map (f i)) = some (D i, p) := by
  obtain ⟨a0, len, cap, rfl⟩ := hval
  obtain ⟨fuel, hf⟩ := h
  rcases Go.Deep.open_slice ht hf with ⟨hcs, hx⟩ | ⟨a, len', cap', m, n, D, Pl, hcs, _, hl, hm, hmm, hx, hcell⟩
  · simp only [Value.cells, List.cons.injEq, Value.slice.injEq, and_true] at hcs
    obtain ⟨rfl, rfl, rfl⟩ := hcs
    exact ⟨none, 0, 0, fun _ _ => .bool false, fun _ => .nil, [], rfl, Nat.le_refl _, by decide, elems_nil W _ _ _ _ (fun _ => rfl), fun h => absurd h (by omega), fun i hi => absurd hi (by omega)⟩
  · simp only [Value.cells, List.cons.injEq, Value.slice.injEq, and_true] at hcs
    obtain ⟨rfl, rfl, rfl⟩ := hcs
    simp only [if_true] at hmm
    rw [hC] at hcell
    obtain ⟨hd, _⟩ := Prod.mk.inj hx
    have hspot : 0 < len → a.spot = none := fun h0 => by
      obtain ⟨cs', h1, _⟩ := hcell 0 (by omega)
      obtain ⟨_, hlen, hat⟩ := World.cells?_some h1
      have h2 := hat 0 hsz
      rw [List.getElem?_eq_getElem (by omega)] at h2
      simpa [Addr.add] using World.cell?_spot h2
    have hex : ∀ i, ∃ cs' : List Value, i < len → (cs'.length = sz ∧ (∀ j, j < sz → W.cell? ((a.add (i * sz)).add j) = cs'[j]?) ∧ DataW.trod enc P W 0 (fun _ => true) true n e cs' = some (D i, Pl i)) := by
      intro i
      by_cases hi : i < len
      · obtain ⟨cs', h1, h2⟩ := hcell i (by omega)
        obtain ⟨_, hlen, hat⟩ := World.cells?_some h1
        exact ⟨cs', fun _ => ⟨hlen, hat, h2⟩⟩
      · exact ⟨[], fun h => absurd h hi⟩
    obtain ⟨F, hF⟩ := Classical.axiomOfChoice hex
    refine ⟨some a, len, cap, fun i j => (F i).getD j (.bool false), D, _, rfl, hl, hm, ⟨by unfold maxLen at hm; omega, ?_⟩, fun _ => hd, fun i hi => ?_⟩
    · by_cases h0 : len = 0
      · subst h0
        exact Or.inl ⟨some a, cap, rfl, (fun h => by cases h), rfl⟩
      · have hs := hspot (by omega)
        obtain ⟨b, off, spot⟩ := a
        simp only at hs
        subst hs
        refine Or.inr ⟨b, off, cap, rfl, hl, fun i j hi hj => ?_⟩
        obtain ⟨h1, h2, _⟩ := hF i hi
        have := h2 j hj
        rw [add_plain, add_plain] at this
        rw [show off + (i * sz + j) = off + i * sz + j by omega, this, List.getElem?_eq_getElem (by omega)]
        simp [List.getD_eq_getElem?_getD, List.getElem?_eq_getElem (show j < (F i).length by omega)]
    · obtain ⟨h1, _, h3⟩ := hF i hi
      refine ⟨n, Pl i, ?_⟩
      have : (List.range sz).map (fun j => (F i).getD j (.bool false)) = F i := by
        apply List.ext_getElem (by simp [h1])
        intro k hk1 hk2
        simp [List.getD_eq_getElem?_getD, List.getElem?_eq_getElem hk2]
      rw [this]; exact h3
theorem open_elems_data {H : Type} {enc : TypeId × Value → H} {P : Program} {t e : TypeId} {sz : Nat} (ht : P.underlying t = some (.slice e)) (hC : P.cellsOf e = sz) (hsz : 0 < sz)
    {W : World} {base : Nat} {v : Value} {d : DataW H} {ps : List MemPlace} (hval : Value.okWide P W .any base t v) (h : DataW.Trod enc P W 0 (fun _ => true) true t v d ps) :
    ∃ a n c f D S, v = .slice a n c ∧ n ≤ c ∧ c ≤ maxLen ∧ Elems W (.slice a n c) sz n f ∧ (0 < n → d = .slice ((List.range n).map D) S) ∧
      ∀ i, i < n → ∃ fuel p, DataW.trod enc P W 0 (fun _ => true) true fuel e ((List.range sz).map (f i)) = some (D i, p) := open_elems_data_in ht hC hsz (okWide_slice ht hval) h
end Go.Proofs.Ytkkhecdmjcffjaa
