/- A slice of bytes cut: a beginning, a piece, a rest, with the room behind it or without. No function of the program in it. No law is proved here. -/
import Derived.Test.YtfooplicnjjipaaDoorSlWords
namespace Go.Proofs.YtfooplicnjjipaaDoor
open Go.RowKit

/-- a beginning of bytes, as it is cut -/
theorem SB.upto {W : World} {s : Sl} {zs : List Int} (h : SB W s zs) {hi : Nat} (h2 : hi ≤ s.n) :
    ∃ s' : Sl, (∀ w, (Instr.slice 22 (slV s) none (some (.int .i64 (hi : Int))) none).run Tryd.prog w = .ok (slV s') w) ∧ SB W s' (zs.take hi) ∧ ∀ g, Off g s zs → Off g s' (zs.take hi) := by
  obtain ⟨h1, h3, hB⟩ := h
  obtain ⟨a, n, c⟩ := s
  simp only at h1 h2 h3
  have hv := bytes_sliced hB h1 (Nat.zero_le hi) h2 h3
  rw [List.drop_zero] at hv
  refine ⟨⟨(if c = 0 then a else a.map (·.add (0 * 1))), hi - 0, c - 0⟩, fun w => ?_, ⟨by rw [List.length_take]; show hi - 0 = _; omega, by show hi - 0 ≤ c - 0; omega, hv⟩, fun g hg => ?_⟩
  · show (Instr.slice 22 (.slice a n c) none _ none).run _ _ = _
    rw [run_slice_h w 22 a n c elem_bytes .i64 hi (by omega) (by omega), size_bytes]
    simp [Result.andThen, sliced]
  · rcases hg with h0 | hg
    · exact Or.inl (by rw [h0]; simp)
    · refine Or.inr fun e => hg ?_
      exact sliced_block (a := a) (lo := 0) (hi := hi) (c := c) rfl e

/-- a piece of bytes, as it is cut -/
theorem SB.between {W : World} {s : Sl} {zs : List Int} (h : SB W s zs) {lo hi : Nat} (h1 : lo ≤ hi) (h2 : hi ≤ s.n) :
    ∃ s' : Sl, (∀ w, (Instr.slice 22 (slV s) (some (.int .i64 (lo : Int))) (some (.int .i64 (hi : Int))) none).run Tryd.prog w = .ok (slV s') w) ∧ SB W s' ((zs.take hi).drop lo) ∧ ∀ g, Off g s zs → Off g s' ((zs.take hi).drop lo) := by
  obtain ⟨hn, h3, hB⟩ := h
  obtain ⟨a, n, c⟩ := s
  simp only at hn h2 h3
  have hv := bytes_sliced hB hn h1 h2 h3
  refine ⟨⟨(if c = lo then a else a.map (·.add (lo * 1))), hi - lo, c - lo⟩, fun w => ?_, ⟨by rw [List.length_drop, List.length_take]; show hi - lo = _; omega, by show hi - lo ≤ c - lo; omega, hv⟩, fun g hg => ?_⟩
  · show (Instr.slice 22 (.slice a n c) _ _ none).run _ _ = _
    rw [run_slice_lh w 22 a n c elem_bytes .i64 .i64 lo hi (by omega) (by omega) (by omega), size_bytes]
    simp [Result.andThen, sliced]
  · rcases hg with h0 | hg
    · exact Or.inl (by rw [h0]; simp)
    · refine Or.inr fun e => hg ?_
      exact sliced_block (a := a) (lo := lo) (hi := hi) (c := c) rfl e

/-- a beginning of bytes, with no room behind -/
theorem SB.first {W : World} {s : Sl} {zs : List Int} (h : SB W s zs) {k : Nat} (hk : k ≤ s.n) :
    ∃ s' : Sl, (∀ w, (Instr.slice 22 (slV s) none (some (.int .i64 (k : Int))) (some (.int .i64 (k : Int)))).run Tryd.prog w = .ok (slV s') w) ∧ SB W s' (zs.take k) ∧ ∀ g, Off g s zs → Off g s' (zs.take k) := by
  obtain ⟨h1, h3, hB⟩ := h
  obtain ⟨a, n, c⟩ := s
  simp only at h1 hk h3
  have hB2 : Bytes W (.slice a n n) zs := by
    obtain ⟨g1, g2, ⟨a0, c0, g3, g4, rfl⟩ | ⟨b, off, c0, g3, g4⟩⟩ := hB
    · simp only [Value.slice.injEq] at g3
      obtain ⟨rfl, rfl, rfl⟩ := g3
      exact bytes_nil _ _ _ (fun _ => rfl)
    · simp only [Value.slice.injEq] at g3
      obtain ⟨rfl, rfl, rfl⟩ := g3
      exact ⟨g1, g2, Or.inr ⟨b, off, _, rfl, g4⟩⟩
  have hv : Bytes W (sliced a 0 k k 1) (zs.take k) := by
    by_cases h0 : k = 0
    · subst h0
      rw [List.take_zero]
      unfold sliced
      exact bytes_nil _ _ _ (fun _ => rfl)
    · obtain ⟨g1, g2, ⟨a0, c0, g3, g4, rfl⟩ | ⟨b, off, c0, g3, g4⟩⟩ := hB2
      · simp at h1; omega
      · simp only [Value.slice.injEq] at g3
        obtain ⟨rfl, rfl, _⟩ := g3
        have hl : (zs.take k).length = k := by rw [List.length_take]; omega
        refine ⟨by rw [hl]; omega, fun x hx => g2 x (List.mem_of_mem_take hx), Or.inr ⟨b, off, k, ?_, fun j hj => ?_⟩⟩
        · rw [hl]; unfold sliced; rw [if_neg h0]; simp [Addr.add]
        · rw [hl] at hj
          rw [g4 j (by omega)]
          simp [List.getD_eq_getElem?_getD, hj]
  refine ⟨⟨(if k = 0 then a else a.map (·.add (0 * 1))), k - 0, k - 0⟩, fun w => ?_, ⟨by rw [List.length_take]; show k - 0 = _; omega, Nat.le_refl _, hv⟩, fun g hg => ?_⟩
  · show (Instr.slice 22 (.slice a n c) none _ _).run _ _ = _
    rw [run_slice_hm w 22 a n c elem_bytes .i64 .i64 k k (by omega) (by omega) (by omega), size_bytes]
    simp [Result.andThen, sliced]
  · rcases hg with h0 | hg
    · exact Or.inl (by rw [h0]; simp)
    · refine Or.inr fun e => hg ?_
      exact sliced_block (a := a) (lo := 0) (hi := k) (c := k) rfl e
/-- the rest of bytes, with no room behind -/
theorem SB.rest {W : World} {s : Sl} {zs : List Int} (h : SB W s zs) {k : Nat} (hk : k ≤ s.n) :
    ∃ s' : Sl, (∀ w, (Instr.slice 22 (slV s) (some (.int .i64 (k : Int))) (some (.int .i64 (s.n : Int))) (some (.int .i64 (s.n : Int)))).run Tryd.prog w = .ok (slV s') w) ∧ SB W s' (zs.drop k) ∧ ∀ g, Off g s zs → Off g s' (zs.drop k) := by
  obtain ⟨h1, h3, hB⟩ := h
  obtain ⟨a, n, c⟩ := s
  simp only at h1 hk h3
  have hB2 : Bytes W (.slice a n n) zs := by
    obtain ⟨g1, g2, ⟨a0, c0, g3, g4, rfl⟩ | ⟨b, off, c0, g3, g4⟩⟩ := hB
    · simp only [Value.slice.injEq] at g3
      obtain ⟨rfl, rfl, rfl⟩ := g3
      exact bytes_nil _ _ _ (fun _ => rfl)
    · simp only [Value.slice.injEq] at g3
      obtain ⟨rfl, rfl, rfl⟩ := g3
      exact ⟨g1, g2, Or.inr ⟨b, off, _, rfl, g4⟩⟩
  have hv := bytes_sliced hB2 h1 hk (Nat.le_refl n) (Nat.le_refl n)
  rw [h1, List.take_length, ← h1] at hv
  refine ⟨⟨(if n = k then a else a.map (·.add (k * 1))), n - k, n - k⟩, fun w => ?_, ⟨by rw [List.length_drop]; show n - k = _; omega, Nat.le_refl _, hv⟩, fun g hg => ?_⟩
  · show (Instr.slice 22 (.slice a n c) _ _ _).run _ _ = _
    rw [run_slice_lhm w 22 a n c elem_bytes .i64 .i64 .i64 k n n (by omega) (by omega) (by omega) (by omega), size_bytes]
    simp [Result.andThen, sliced]
  · rcases hg with h0 | hg
    · exact Or.inl (by rw [h0]; simp)
    · refine Or.inr fun e => hg ?_
      exact sliced_block (a := a) (lo := k) (hi := n) (c := n) rfl e
end Go.Proofs.YtfooplicnjjipaaDoor
