/- Books that came in, and that they are no more than memory can hold. No law is proved here. -/
import Derived.Test.YtkkhecdmjcffjaaBooks
import Derived.Test.YtkkhecdmjcffjaaRightsWords
import Derived.Test.YtkkhecdmjcffjaaOpenData
namespace Go.Proofs.Ytkkhecdmjcffjaa
open Go.ChangeShapes Go.WideShapes Go.ChangeAt Go.RowKit Go.Joins Go.Deep

theorem open_nums_reach {H : Type} {enc : TypeId × Value → H} {W : World} {v : Value} {n : Nat} {y : DataW H × List MemPlace} (hf : DataW.trod enc Try.prog W 0 (fun _ => true) true n 35 [v] = some y) :
    ∃ a m c l, v = .slice a m c ∧ m = l.length ∧ Nums W (.slice a m c) l ∧ (Held 35 y.1 → l.length ≤ 17592186044416) := by
  obtain ⟨a', m', c', l', e1, e2, e3⟩ := open_nums hf
  refine ⟨a', m', c', l', e1, e2, e3, fun hw => ?_⟩
  rcases open_ints Try.underlying35 Try.underlying2 cells_int64 hf with ⟨hcs, hx⟩ | ⟨a, len, cap, zs, hcs, _, hl, hm, hz, hx, hcell, hwz⟩
  · rw [e1] at hcs
    simp only [List.cons.injEq, Value.slice.injEq, and_true] at hcs
    omega
  · rw [e1] at hcs
    simp only [List.cons.injEq, Value.slice.injEq, and_true] at hcs
    obtain ⟨_, rfl, _⟩ := hcs
    simp only [if_true] at hz
    have h8 : Try.prog.bytesOf 2 = 8 := by kernel_rfl
    have := hw (((lits .i64 (zs.take m') : List (DataW H)).length + (lits .i64 (zs.drop m') : List (DataW H)).length) * Try.prog.bytesOf 2) (by
      rw [hx]
      simp only [DataW.weights, Try.underlying35]
      exact List.mem_cons_self)
    rw [h8] at this
    have hlen : (lits .i64 (zs.take m') : List (DataW H)).length = m' := by
      simp [lits]; omega
    rw [hlen] at this
    simp only [reachBytes] at this
    omega

theorem open_books_in {H : Type} {enc : TypeId × Value → H} {W : World} {v : Value} {d : DataW H} {p : List MemPlace} (hv : ∃ a len cap, v = .slice a len cap)
    (h : DataW.Trod enc Try.prog W 0 (fun _ => true) true 24 v d p) (hw : Held 24 d) : ∃ a m c l, v = .slice a m c ∧ m = l.length ∧ Books W (.slice a m c) l ∧ Reach l := by
  obtain ⟨a, n, c, f, D, S, rfl, _, _, hE, hd, hf⟩ := open_elems_data_in Try.underlying24 cells_row (by decide) hv h
  have h40 : Try.prog.bytesOf 37 = 40 := by kernel_rfl
  have hn : n ≤ 17592186044416 := by
    by_cases h0 : 0 < n
    · have := hw ((((List.range n).map D).length + S.length) * Try.prog.bytesOf 37) (by
        rw [hd h0]
        simp only [DataW.weights, Try.underlying24]
        exact List.mem_cons_self)
      rw [h40, List.length_map, List.length_range] at this
      simp only [reachBytes] at this
      omega
    · omega
  have hD : ∀ i, i < n → Held 37 (D i) := fun i hi q hq => hw q (by
    rw [hd (by omega)]
    simp only [DataW.weights, Try.underlying24]
    exact List.mem_cons_of_mem _ (List.mem_append_left _ (weightsAll_mem (List.mem_map.2 ⟨i, List.mem_range.2 hi, rfl⟩) q hq)))
  have hex : ∀ i, ∃ out : List Int, i < n → ((∃ x, f i 0 = .int .i64 x) ∧ (∃ x, f i 1 = .int .i64 x) ∧ (∃ A C, f i 2 = .slice A out.length C ∧ Nums W (f i 2) out) ∧ out.length ≤ 17592186044416) := by
    intro i
    by_cases hi : i < n
    · obtain ⟨fu, pl, hx⟩ := hf i hi
      obtain ⟨xs, m, _, hxe, _, hlen, hat⟩ := DataW.trod_struct Try.underlying37 hx
      obtain ⟨hDi, _⟩ := Prod.mk.inj hxe
      have hr : (List.range 3).map (f i) = [f i 0, f i 1, f i 2] := rfl
      have h0 := hat 0 _ rfl
      have h1 := hat 1 _ rfl
      have h2 := hat 2 _ rfl
      rw [hr] at h0 h1 h2
      rw [List.getElem?_eq_getElem (show 0 < xs.length by rw [hlen]; decide)] at h0
      rw [List.getElem?_eq_getElem (show 1 < xs.length by rw [hlen]; decide)] at h1
      rw [List.getElem?_eq_getElem (show 2 < xs.length by rw [hlen]; decide)] at h2
      obtain ⟨t0, e0, _⟩ := DataW.trod_int Try.underlying2 h0
      obtain ⟨t1, e1, _⟩ := DataW.trod_int Try.underlying2 h1
      have e0' : [f i 0] = [Value.int .i64 t0] := e0
      have e1' : [f i 1] = [Value.int .i64 t1] := e1
      simp only [List.cons.injEq, and_true] at e0' e1'
      obtain ⟨A, m', C, l, e2, hm, hN, hR⟩ := open_nums_reach (v := f i 2) h2
      refine ⟨l, fun _ => ⟨⟨t0, e0'⟩, ⟨t1, e1'⟩, ⟨A, C, by rw [e2, hm], by rw [e2]; exact hN⟩, hR fun q hq => hD i hi q ?_⟩⟩
      rw [hDi]
      simp only [DataW.weights, Try.underlying37]
      exact DataW.weights_mem_each (j := 2) rfl (by rw [List.getElem?_map, List.getElem?_eq_getElem (show 2 < xs.length by rw [hlen]; decide)]; rfl) q hq
    · exact ⟨[], fun h => absurd h hi⟩
  obtain ⟨G, hG⟩ := Classical.axiomOfChoice hex
  have e : ∀ i, i < n → at_ ((List.range n).map (fun i => (⟨cellInt (f i 0), cellInt (f i 1), G i⟩ : Rw))) i = ⟨cellInt (f i 0), cellInt (f i 1), G i⟩ := fun i hi => by simp [at_, hi]
  refine ⟨a, n, c, (List.range n).map (fun i => ⟨cellInt (f i 0), cellInt (f i 1), G i⟩), rfl, by simp, ⟨fun i => f i 2, ?_, fun k hk => ?_⟩, ?_, fun k hk => ?_⟩
  · rw [List.length_map, List.length_range]
    refine hE.congr fun i j hi hj => ?_
    obtain ⟨⟨x0, h0⟩, ⟨x1, h1⟩, _⟩ := hG i hi
    unfold rowCell
    rw [e i hi]
    match j, hj with
    | 0, _ => rw [if_pos rfl, h0]; rfl
    | 1, _ => rw [if_neg (by decide), if_pos rfl, h1]; rfl
    | 2, _ => rw [if_neg (by decide), if_neg (by decide)]
  · rw [List.length_map, List.length_range] at hk
    rw [e k hk]
    obtain ⟨_, _, ⟨A, C, h2, hN⟩, _⟩ := hG k hk
    exact ⟨A, C, h2, hN⟩
  · rw [List.length_map, List.length_range]; exact hn
  · rw [List.length_map, List.length_range] at hk
    rw [e k hk]
    exact (hG k hk).2.2.2
theorem open_books_reach {H : Type} {enc : TypeId × Value → H} {W : World} {base : Nat} {v : Value} {d : DataW H} {p : List MemPlace} (hv : Value.okWide Try.prog W .any base 24 v)
    (h : DataW.Trod enc Try.prog W 0 (fun _ => true) true 24 v d p) (hw : Held 24 d) : ∃ a m c l, v = .slice a m c ∧ m = l.length ∧ Books W (.slice a m c) l ∧ Reach l := open_books_in (okWide_slice Try.underlying24 hv) h hw
end Go.Proofs.Ytkkhecdmjcffjaa
