/- Merged texts: OpenData, BooksReach. No law is proved here. -/
import Derived.Test.YtfpadcfahfanoaaMg0
import Derived.Lib.SmallJoins
import Derived.SizedLaws
import Derived.Test.YtfpadcfahfanoaaMg2
import Derived.Test.YtfpadcfahfanoaaRightsWords
/- A slice of structs that came in, each datum told; that it is no more than memory can hold. No function of the program in it. No law is proved here. -/
namespace Go.Proofs.Ytfpadcfahfanoaa
open Go.ChangeShapes Go.WideShapes Go.ChangeAt Go.RowKit Go.Joins Go.Deep

/-- no part of a datum takes more than memory can hold -/
def Held {H : Type} (t : TypeId) (d : DataW H) : Prop := ∀ n ∈ d.weights Try.prog t, n ≤ reachBytes

theorem weightsAll_mem {H : Type} {P : Program} {e : TypeId} : ∀ {ds : List (DataW H)} {d : DataW H}, d ∈ ds → ∀ n ∈ d.weights P e, n ∈ DataW.weightsAll P e ds
  | [], _, h, _, _ => by cases h
  | d' :: r, d, h, n, hn => by
    rw [DataW.weightsAll, List.mem_append]
    rcases List.mem_cons.1 h with rfl | h
    · exact Or.inl hn
    · exact Or.inr (weightsAll_mem h n hn)

/-- A slice of structs that came in, each element's datum told. -/
theorem open_elems_data_in {H : Type} {enc : TypeId × Value → H} {P : Program} {t e : TypeId} {sz : Nat} (ht : P.underlying t = some (.slice e)) (hC : P.cellsOf e = sz) (hsz : 0 < sz)
    {W : World} {v : Value} {d : DataW H} {ps : List MemPlace} (hval : ∃ a len cap, v = .slice a len cap) (h : DataW.Trod enc P W 0 (fun _ => true) true t v d ps) :
    ∃ a n c f D S, v = .slice a n c ∧ n ≤ c ∧ c ≤ maxLen ∧ Elems W (.slice a n c) sz n f ∧ (0 < n → d = .slice ((List.range n).map D) S) ∧
      ∀ i, i < n → ∃ fuel p, DataW.trod enc P W 0 (fun _ => true) true fuel e ((List.range sz).map (f i)) = some (D i, p) := by
  obtain ⟨a0, len, cap, rfl⟩ := hval
  obtain ⟨fuel, hf⟩ := h
  rcases Go.Deep.open_slice ht hf with ⟨hcs, hx⟩ | ⟨a, len', cap', m, n, D, Pl, hcs, _, hl, hm, hmm, hx, hcell⟩
  · simp only [Value.cells, List.cons.injEq, Value.slice.injEq, and_true] at hcs
    obtain ⟨rfl, rfl, rfl⟩ := hcs
    exact ⟨none, 0, 0, fun _ _ => .bool false, fun _ => .nil, [], rfl, Nat.le_refl _, by decide, elems_nil W _ _ _ _ (fun _ => rfl), fun h => absurd h (by omega), fun i hi => absurd hi (by omega)⟩
  · simp only [Value.cells, List.cons.injEq, Value.slice.injEq, and_true] at hcs
    obtain ⟨rfl, rfl, rfl⟩ := hcs
    simp only [if_true] at hmm
    rw [hC] at hcell
    obtain ⟨hd, _⟩ := Prod.mk.inj hx
    have hspot : 0 < len → a.spot = none := fun h0 => by
      obtain ⟨cs', h1, _⟩ := hcell 0 (by omega)
      obtain ⟨_, hlen, hat⟩ := World.cells?_some h1
      have h2 := hat 0 hsz
      rw [List.getElem?_eq_getElem (by omega)] at h2
      simpa [Addr.add] using World.cell?_spot h2
    have hex : ∀ i, ∃ cs' : List Value, i < len → (cs'.length = sz ∧ (∀ j, j < sz → W.cell? ((a.add (i * sz)).add j) = cs'[j]?) ∧ DataW.trod enc P W 0 (fun _ => true) true n e cs' = some (D i, Pl i)) := by
      intro i
      by_cases hi : i < len
      · obtain ⟨cs', h1, h2⟩ := hcell i (by omega)
        obtain ⟨_, hlen, hat⟩ := World.cells?_some h1
        exact ⟨cs', fun _ => ⟨hlen, hat, h2⟩⟩
      · exact ⟨[], fun h => absurd h hi⟩
    obtain ⟨F, hF⟩ := Classical.axiomOfChoice hex
    refine ⟨some a, len, cap, fun i j => (F i).getD j (.bool false), D, _, rfl, hl, hm, ⟨by unfold maxLen at hm; omega, ?_⟩, fun _ => hd, fun i hi => ?_⟩
    · by_cases h0 : len = 0
      · subst h0
        exact Or.inl ⟨some a, cap, rfl, (fun h => by cases h), rfl⟩
      · have hs := hspot (by omega)
        obtain ⟨b, off, spot⟩ := a
        simp only at hs
        subst hs
        refine Or.inr ⟨b, off, cap, rfl, hl, fun i j hi hj => ?_⟩
        obtain ⟨h1, h2, _⟩ := hF i hi
        have := h2 j hj
        rw [add_plain, add_plain] at this
        rw [show off + (i * sz + j) = off + i * sz + j by omega, this, List.getElem?_eq_getElem (by omega)]
        simp [List.getD_eq_getElem?_getD, List.getElem?_eq_getElem (show j < (F i).length by omega)]
    · obtain ⟨h1, _, h3⟩ := hF i hi
      refine ⟨n, Pl i, ?_⟩
      have : (List.range sz).map (fun j => (F i).getD j (.bool false)) = F i := by
        apply List.ext_getElem (by simp [h1])
        intro k hk1 hk2
        simp [List.getD_eq_getElem?_getD, List.getElem?_eq_getElem hk2]
      rw [this]; exact h3
theorem open_elems_data {H : Type} {enc : TypeId × Value → H} {P : Program} {t e : TypeId} {sz : Nat} (ht : P.underlying t = some (.slice e)) (hC : P.cellsOf e = sz) (hsz : 0 < sz)
    {W : World} {base : Nat} {v : Value} {d : DataW H} {ps : List MemPlace} (hval : Value.okWide P W .any base t v) (h : DataW.Trod enc P W 0 (fun _ => true) true t v d ps) :
    ∃ a n c f D S, v = .slice a n c ∧ n ≤ c ∧ c ≤ maxLen ∧ Elems W (.slice a n c) sz n f ∧ (0 < n → d = .slice ((List.range n).map D) S) ∧
      ∀ i, i < n → ∃ fuel p, DataW.trod enc P W 0 (fun _ => true) true fuel e ((List.range sz).map (f i)) = some (D i, p) := open_elems_data_in ht hC hsz (okWide_slice ht hval) h
end Go.Proofs.Ytfpadcfahfanoaa

/- Books that came in, and that they are no more than memory can hold. No law is proved here. -/
namespace Go.Proofs.Ytfpadcfahfanoaa
open Go.ChangeShapes Go.WideShapes Go.ChangeAt Go.RowKit Go.Joins Go.Deep

theorem open_nums_reach {H : Type} {enc : TypeId × Value → H} {W : World} {v : Value} {n : Nat} {y : DataW H × List MemPlace} (hf : DataW.trod enc Try.prog W 0 (fun _ => true) true n 52 [v] = some y) :
    ∃ a m c l, v = .slice a m c ∧ m = l.length ∧ Nums W (.slice a m c) l ∧ (Held 52 y.1 → l.length ≤ 17592186044416) := by
  obtain ⟨a', m', c', l', e1, e2, e3⟩ := open_nums hf
  refine ⟨a', m', c', l', e1, e2, e3, fun hw => ?_⟩
  rcases open_ints Try.underlying52 Try.underlying2 cells_int64 hf with ⟨hcs, hx⟩ | ⟨a, len, cap, zs, hcs, _, hl, hm, hz, hx, hcell, hwz⟩
  · rw [e1] at hcs
    simp only [List.cons.injEq, Value.slice.injEq, and_true] at hcs
    omega
  · rw [e1] at hcs
    simp only [List.cons.injEq, Value.slice.injEq, and_true] at hcs
    obtain ⟨_, rfl, _⟩ := hcs
    simp only [if_true] at hz
    have h8 : Try.prog.bytesOf 2 = 8 := by kernel_rfl
    have := hw (((lits .i64 (zs.take m') : List (DataW H)).length + (lits .i64 (zs.drop m') : List (DataW H)).length) * Try.prog.bytesOf 2) (by
      rw [hx]
      simp only [DataW.weights, Try.underlying52]
      exact List.mem_cons_self)
    rw [h8] at this
    have hlen : (lits .i64 (zs.take m') : List (DataW H)).length = m' := by
      simp [lits]; omega
    rw [hlen] at this
    simp only [reachBytes] at this
    omega

set_option maxRecDepth 100000 in
theorem open_books_in {H : Type} {enc : TypeId × Value → H} {W : World} {v : Value} {d : DataW H} {p : List MemPlace} (hv : ∃ a len cap, v = .slice a len cap)
    (h : DataW.Trod enc Try.prog W 0 (fun _ => true) true 26 v d p) (hw : Held 26 d) : ∃ a m c l, v = .slice a m c ∧ m = l.length ∧ Books W (.slice a m c) l ∧ Reach l := by
  obtain ⟨a, n, c, f, D, S, rfl, _, _, hE, hd, hf⟩ := open_elems_data_in Try.underlying26 cells_row (by decide) hv h
  have h40 : Try.prog.bytesOf 59 = 40 := by kernel_rfl
  have hn : n ≤ 17592186044416 := by
    by_cases h0 : 0 < n
    · have := hw ((((List.range n).map D).length + S.length) * Try.prog.bytesOf 59) (by
        rw [hd h0]
        simp only [DataW.weights, Try.underlying26]
        exact List.mem_cons_self)
      rw [h40, List.length_map, List.length_range] at this
      simp only [reachBytes] at this
      omega
    · omega
  have hD : ∀ i, i < n → Held 59 (D i) := fun i hi q hq => hw q (by
    rw [hd (by omega)]
    simp only [DataW.weights, Try.underlying26]
    exact List.mem_cons_of_mem _ (List.mem_append_left _ (weightsAll_mem (List.mem_map.2 ⟨i, List.mem_range.2 hi, rfl⟩) q hq)))
  have hex : ∀ i, ∃ out : List Int, i < n → ((∃ x, f i 0 = .int .i64 x) ∧ (∃ x, f i 1 = .int .i64 x) ∧ (∃ A C, f i 2 = .slice A out.length C ∧ Nums W (f i 2) out) ∧ out.length ≤ 17592186044416) := by
    intro i
    by_cases hi : i < n
    · obtain ⟨fu, pl, hx⟩ := hf i hi
      obtain ⟨xs, m, _, hxe, _, hlen, hat⟩ := DataW.trod_struct Try.underlying59 hx
      obtain ⟨hDi, _⟩ := Prod.mk.inj hxe
      have hr : (List.range 3).map (f i) = [f i 0, f i 1, f i 2] := rfl
      have h0 := hat 0 _ rfl
      have h1 := hat 1 _ rfl
      have h2 := hat 2 _ rfl
      rw [hr] at h0 h1 h2
      rw [List.getElem?_eq_getElem (show 0 < xs.length by rw [hlen]; decide)] at h0
      rw [List.getElem?_eq_getElem (show 1 < xs.length by rw [hlen]; decide)] at h1
      rw [List.getElem?_eq_getElem (show 2 < xs.length by rw [hlen]; decide)] at h2
      obtain ⟨t0, e0, _⟩ := DataW.trod_int Try.underlying2 h0
      obtain ⟨t1, e1, _⟩ := DataW.trod_int Try.underlying2 h1
      have e0' : [f i 0] = [Value.int .i64 t0] := e0
      have e1' : [f i 1] = [Value.int .i64 t1] := e1
      simp only [List.cons.injEq, and_true] at e0' e1'
      obtain ⟨A, m', C, l, e2, hm, hN, hR⟩ := open_nums_reach (v := f i 2) h2
      refine ⟨l, fun _ => ⟨⟨t0, e0'⟩, ⟨t1, e1'⟩, ⟨A, C, by rw [e2, hm], by rw [e2]; exact hN⟩, hR fun q hq => hD i hi q ?_⟩⟩
      rw [hDi]
      simp only [DataW.weights, Try.underlying59]
      exact DataW.weights_mem_each (j := 2) rfl (by rw [List.getElem?_map, List.getElem?_eq_getElem (show 2 < xs.length by rw [hlen]; decide)]; rfl) q hq
    · exact ⟨[], fun h => absurd h hi⟩
  obtain ⟨G, hG⟩ := Classical.axiomOfChoice hex
  have e : ∀ i, i < n → at_ ((List.range n).map (fun i => (⟨cellInt (f i 0), cellInt (f i 1), G i⟩ : Rw))) i = ⟨cellInt (f i 0), cellInt (f i 1), G i⟩ := fun i hi => by simp [at_, hi]
  refine ⟨a, n, c, (List.range n).map (fun i => ⟨cellInt (f i 0), cellInt (f i 1), G i⟩), rfl, by simp, ⟨fun i => f i 2, ?_, fun k hk => ?_⟩, ?_, fun k hk => ?_⟩
  · rw [List.length_map, List.length_range]
    refine hE.congr fun i j hi hj => ?_
    obtain ⟨⟨x0, h0⟩, ⟨x1, h1⟩, _⟩ := hG i hi
    unfold rowCell
    rw [e i hi]
    match j, hj with
    | 0, _ => rw [if_pos rfl, h0]; rfl
    | 1, _ => rw [if_neg (by decide), if_pos rfl, h1]; rfl
    | 2, _ => rw [if_neg (by decide), if_neg (by decide)]
  · rw [List.length_map, List.length_range] at hk
    rw [e k hk]
    obtain ⟨_, _, ⟨A, C, h2, hN⟩, _⟩ := hG k hk
    exact ⟨A, C, h2, hN⟩
  · rw [List.length_map, List.length_range]; exact hn
  · rw [List.length_map, List.length_range] at hk
    rw [e k hk]
    exact (hG k hk).2.2.2
set_option maxRecDepth 100000 in
theorem open_books_reach {H : Type} {enc : TypeId × Value → H} {W : World} {base : Nat} {v : Value} {d : DataW H} {p : List MemPlace} (hv : Value.okWide Try.prog W .any base 26 v)
    (h : DataW.Trod enc Try.prog W 0 (fun _ => true) true 26 v d p) (hw : Held 26 d) : ∃ a m c l, v = .slice a m c ∧ m = l.length ∧ Books W (.slice a m c) l ∧ Reach l := open_books_in (okWide_slice Try.underlying26 hv) h hw
end Go.Proofs.Ytfpadcfahfanoaa
