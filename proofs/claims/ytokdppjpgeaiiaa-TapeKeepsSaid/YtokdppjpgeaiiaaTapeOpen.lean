/- A slice of bytes, a tape, that came in. No law is proved here. -/
import Derived.Test.YtokdppjpgeaiiaaTapeWords
import Derived.Lib.SmallJoins
namespace Go.Proofs.Ytokdppjpgeaiiaa
open Go.ChangeShapes Go.WideShapes Go.ChangeAt Go.RowKit Go.Joins Go.Deep

theorem cells_tape : Try.prog.cellsOf 26 = 4 := by kernel_rfl
theorem cells_area : Try.prog.cellsOf 24 = 2 := by kernel_rfl
theorem cells_byte : Try.prog.cellsOf 5 = 1 := by kernel_rfl

/-- one cell: a slice of bytes -/
theorem open_sl {H : Type} {enc : TypeId × Value → H} {W : World} {v : Value} {n : Nat} {y : DataW H × List MemPlace} (hf : DataW.trod enc Try.prog W 0 (fun _ => true) true n 22 [v] = some y) :
    ∃ (s : Sl) (zs : List Int), v = slV s ∧ SB W s zs := by
  rcases open_ints Try.underlying22 Try.underlying5 cells_byte hf with ⟨hcs, hx⟩ | ⟨a, len, cap, zs, hcs, _, hl, hm, hz, hx, hcell, hwz⟩
  · simp only [List.cons.injEq, and_true] at hcs
    exact ⟨⟨none, 0, 0⟩, [], hcs, SB.nil W⟩
  · simp only [List.cons.injEq, and_true] at hcs
    subst hcs
    simp only [if_true] at hz
    have hlen : (zs.take len).length = len := by simp; omega
    have hmm : len ≤ 9223372036854775807 := by unfold maxLen at hm; omega
    have hby : ∀ c ∈ zs.take len, 0 ≤ c ∧ c < 256 := fun z hz' => by
      have h5 := hwz z (List.mem_of_mem_take hz')
      have e1 : IntKind.u8.min = 0 := rfl
      have e2 : IntKind.u8.max = 255 := rfl
      simp only [Lit.wf, e1, e2, Bool.and_eq_true, decide_eq_true_eq] at h5
      omega
    refine ⟨⟨some a, len, cap⟩, zs.take len, rfl, hlen.symm, hl, ?_⟩
    obtain ⟨b, off, spot⟩ := a
    by_cases h0 : len = 0
    · subst h0
      rw [List.take_zero]
      exact bytes_nil W _ _ (fun h => by cases h)
    · have hspot : spot = none := by simpa [Addr.add] using World.cell?_spot (hcell 0 (by omega))
      subst hspot
      refine ⟨by rw [hlen]; exact hmm, hby, Or.inr ⟨b, off, cap, by rw [hlen], fun j hj => ?_⟩⟩
      rw [hlen] at hj
      have := hcell j (by omega)
      rw [← add_plain, this]
      simp [List.getD_eq_getElem?_getD, hj]

/-- two cells: an area -/
theorem open_area {H : Type} {enc : TypeId × Value → H} {W : World} {u v : Value} {n : Nat} {y : DataW H × List MemPlace} (hf : DataW.trod enc Try.prog W 0 (fun _ => true) true n 24 [u, v] = some y) :
    ∃ (x : ArS) (a : Ar), u = slV x.s ∧ v = slV x.l ∧ AB W x a := by
  obtain ⟨xs, m, _, _, _, hlen, hat⟩ := DataW.trod_struct Try.underlying24 hf
  have h0 := hat 0 _ rfl
  have h1 := hat 1 _ rfl
  rw [List.getElem?_eq_getElem (show 0 < xs.length by rw [hlen]; decide)] at h0
  rw [List.getElem?_eq_getElem (show 1 < xs.length by rw [hlen]; decide)] at h1
  obtain ⟨s, zs, rfl, hs⟩ := open_sl (v := u) h0
  obtain ⟨l, zl, rfl, hl⟩ := open_sl (v := v) h1
  exact ⟨⟨s, l⟩, ⟨zs, zl⟩, rfl, rfl, hs, hl⟩

theorem open_tape {H : Type} {enc : TypeId × Value → H} {W : World} {base : Nat} {v : Value} {d : DataW H} {p : List MemPlace} (hv : Value.okWide Try.prog W .any base 26 v)
    (h : DataW.Trod enc Try.prog W 0 (fun _ => true) true 26 v d p) : ∃ (x : TpS) (t : Tp), v = tpV x ∧ TB W x t := by
  obtain ⟨cs, rfl, hsz⟩ := okWide_struct Try.underlying26 hv
  obtain ⟨fuel, hf⟩ := h
  obtain ⟨xs, m, _, _, _, hlen, hat⟩ := DataW.trod_struct Try.underlying26 hf
  rw [cells_tape] at hsz
  obtain ⟨l⟩ := cs
  match l, hsz with
  | [v0, v1, v2, v3], _ =>
    have h0 := hat 0 _ rfl
    have h1 := hat 1 _ rfl
    rw [List.getElem?_eq_getElem (show 0 < xs.length by rw [hlen]; decide)] at h0
    rw [List.getElem?_eq_getElem (show 1 < xs.length by rw [hlen]; decide)] at h1
    obtain ⟨x, a, rfl, rfl, hx⟩ := open_area (u := v0) (v := v1) h0
    obtain ⟨y, b, rfl, rfl, hy⟩ := open_area (u := v2) (v := v3) h1
    exact ⟨⟨x, y⟩, ⟨a, b⟩, rfl, hx, hy⟩
end Go.Proofs.Ytokdppjpgeaiiaa
