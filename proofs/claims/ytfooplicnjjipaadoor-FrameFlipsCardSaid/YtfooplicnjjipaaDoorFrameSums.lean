/- How many bytes some texts have, and their frames; which of them are whole. No program in it. No law is proved here. -/
import Derived.Test.YtfooplicnjjipaaDoorFrameMath
namespace Go.Proofs.YtfooplicnjjipaaDoor.FrameMath

/-- how many bytes some texts have -/
def total (l : List (List Int)) : Nat := (l.map List.length).sum
theorem total_append (l m : List (List Int)) : total (l ++ m) = total l + total m := by unfold total; rw [List.map_append, List.sum_append]
theorem total_take_succ (l : List (List Int)) {i : Nat} (h : i < l.length) : total (l.take (i + 1)) = total (l.take i) + (l[i]?.getD []).length := by
  rw [List.take_succ_eq_append_getElem h, total_append]
  congr 1
  simp [total, List.getElem?_eq_getElem h]
theorem total_cons (p : List Int) (l : List (List Int)) : total (p :: l) = p.length + total l := by simp [total]
theorem total_mono (l : List (List Int)) (i : Nat) : total (l.take i) ≤ total l := by
  have e : total l = total (l.take i) + total (l.drop i) := by rw [← total_append, List.take_append_drop]
  omega
theorem frames_le (l : List (List Int)) (h : total l ≤ 1000000) : (frames l).length ≤ total l + 14 * l.length := by
  induction l with
  | nil => simp [frames]
  | cons p l ih =>
    rw [total_cons] at h ⊢
    rw [frames_cons, List.length_append, List.length_cons, frm_length]
    unfold sizeN
    have := PackMath.num_len_64 p.length (by omega)
    have := ih (by omega)
    omega
/-- the whole ones -/
theorem whole_ex (l : List (List Int)) (k : Nat) : ∀ n, n ≤ l.length → ∃ m, m ≤ n ∧ (frames (l.take m)).length ≤ k ∧ (m < n → k < (frames (l.take (m + 1))).length) := by
  intro n
  induction n with
  | zero => exact fun _ => ⟨0, Nat.le_refl _, by simp [frames], fun h => absurd h (by omega)⟩
  | succ n ih =>
    intro hn
    obtain ⟨m, h1, h2, h3⟩ := ih (by omega)
    by_cases hm : m < n
    · exact ⟨m, by omega, h2, fun _ => h3 hm⟩
    · obtain rfl : m = n := by omega
      by_cases hk : (frames (l.take (m + 1))).length ≤ k
      · exact ⟨m + 1, Nat.le_refl _, hk, fun h => absurd h (by omega)⟩
      · exact ⟨m, by omega, h2, fun _ => by omega⟩
end Go.Proofs.YtfooplicnjjipaaDoor.FrameMath
