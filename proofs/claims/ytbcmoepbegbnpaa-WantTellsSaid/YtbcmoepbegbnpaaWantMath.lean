/- Layer 12's mathematics: the last 64, the estimate. No program in it; no law is proved here. -/
import Derived.Test.YtbcmoepbegbnpaaLaw
import Derived.Test.YtbcmoepbegbnpaaKit
namespace Go.Proofs.Ytbcmoepbegbnpaa

/-- the last 64 -/
def lastN (l : List Int) : List Int := l.drop (l.length - 64)
/-- one number more: an amount adds itself, and 1; 0 halves both -/
def stepE (e : Nat × Nat) (x : Int) : Nat × Nat := if x = 0 then (e.1 / 2, e.2 / 2) else if 1 ≤ x ∧ x ≤ 1099511627776 then (e.1 + x.toNat, e.2 + 1) else e
/-- how much, how often, of so many numbers -/
def runE (l : List Int) : Nat × Nat := l.foldl stepE (0, 0)
def estE (l : List Int) : Nat × Nat := runE (lastN l)
/-- what is kept, with one more -/
def keepN (l : List Int) (x : Int) : List Int := lastN (l ++ [x])

theorem runE_nil : runE [] = (0, 0) := rfl
theorem runE_snoc (l : List Int) (x : Int) : runE (l ++ [x]) = stepE (runE l) x := by unfold runE; rw [List.foldl_append]; rfl
theorem stepE_zero (e : Nat × Nat) : stepE e 0 = (e.1 / 2, e.2 / 2) := if_pos rfl
theorem stepE_in (e : Nat × Nat) {x : Int} (h1 : 1 ≤ x) (h2 : x ≤ 1099511627776) : stepE e x = (e.1 + x.toNat, e.2 + 1) := by unfold stepE; rw [if_neg (by omega), if_pos ⟨h1, h2⟩]
theorem stepE_out (e : Nat × Nat) {x : Int} (h0 : x ≠ 0) (h : ¬ (1 ≤ x ∧ x ≤ 1099511627776)) : stepE e x = e := by unfold stepE; rw [if_neg h0, if_neg h]
theorem step_bound {e : Nat × Nat} {k : Nat} (x : Int) (h : e.1 ≤ k * 1099511627776 ∧ e.2 ≤ k ∧ e.1 ≤ (e.2 + 1) * 1099511627776) :
    (stepE e x).1 ≤ (k + 1) * 1099511627776 ∧ (stepE e x).2 ≤ k + 1 ∧ (stepE e x).1 ≤ ((stepE e x).2 + 1) * 1099511627776 := by
  obtain ⟨h1, h2, h3⟩ := h
  by_cases hx : x = 0
  · subst hx
    rw [stepE_zero]
    simp only
    omega
  · by_cases hx2 : 1 ≤ x ∧ x ≤ 1099511627776
    · rw [stepE_in e hx2.1 hx2.2]
      simp only
      omega
    · rw [stepE_out e hx hx2]
      omega
theorem runE_bound (l : List Int) : (runE l).1 ≤ l.length * 1099511627776 ∧ (runE l).2 ≤ l.length ∧ (runE l).1 ≤ ((runE l).2 + 1) * 1099511627776 := by
  have key : ∀ (l : List Int) (e : Nat × Nat) (k : Nat), (e.1 ≤ k * 1099511627776 ∧ e.2 ≤ k ∧ e.1 ≤ (e.2 + 1) * 1099511627776) →
      (l.foldl stepE e).1 ≤ (k + l.length) * 1099511627776 ∧ (l.foldl stepE e).2 ≤ k + l.length ∧ (l.foldl stepE e).1 ≤ ((l.foldl stepE e).2 + 1) * 1099511627776 := by
    intro l
    induction l with
    | nil => intro e k h; simpa using h
    | cons x l ih =>
      intro e k h
      have := ih (stepE e x) (k + 1) (step_bound x h)
      rw [List.foldl_cons, List.length_cons]
      rwa [show k + 1 + l.length = k + (l.length + 1) by omega] at this
  have := key l (0, 0) 0 (by simp)
  rwa [Nat.zero_add] at this
theorem lastN_length (l : List Int) : (lastN l).length = l.length - (l.length - 64) := by unfold lastN; rw [List.length_drop]
theorem lastN_le (l : List Int) : (lastN l).length ≤ 64 := by rw [lastN_length]; omega
theorem lastN_small {l : List Int} (h : l.length ≤ 64) : lastN l = l := by unfold lastN; rw [show l.length - 64 = 0 by omega]; rfl
theorem lastN_last (l : List Int) : lastN (lastN l) = lastN l := lastN_small (lastN_le l)
theorem estE_last (l : List Int) : estE (lastN l) = estE l := by unfold estE; rw [lastN_last]
theorem estE_bound (l : List Int) : (estE l).1 ≤ 70368744177664 ∧ (estE l).2 ≤ 64 ∧ (estE l).1 ≤ ((estE l).2 + 1) * 1099511627776 := by
  have h := runE_bound (lastN l)
  have := lastN_le l
  unfold estE
  omega
theorem keep_last (l : List Int) (x : Int) : keepN (lastN l) x = keepN l x := by
  by_cases h : l.length ≤ 64
  · rw [lastN_small h]
  · unfold keepN lastN
    rw [List.length_append, List.length_append, List.length_drop, List.length_singleton]
    obtain ⟨j, hj⟩ : ∃ j, l.length - 64 = j := ⟨_, rfl⟩
    rw [hj, show l.length - j + 1 - 64 = 1 by omega, show l.length + 1 - 64 = j + 1 by omega, ← List.drop_drop, show List.drop j (l ++ [x]) = List.drop j l ++ [x] from List.drop_append_of_le_length (by omega)]
theorem keepN_le (l : List Int) (x : Int) : (keepN l x).length ≤ 64 := lastN_le _
theorem keepN_small {l : List Int} (x : Int) (h : l.length ≤ 63) : keepN l x = l ++ [x] := lastN_small (by rw [List.length_append, List.length_singleton]; omega)
theorem est_more {l : List Int} (x : Int) (h : l.length ≤ 63) : estE (keepN l x) = stepE (estE l) x := by
  rw [keepN_small x h]
  unfold estE
  rw [lastN_small (by rw [List.length_append, List.length_singleton]; omega), lastN_small (by omega), runE_snoc]
theorem run_zeros (n : Nat) : runE (List.replicate n 0) = (0, 0) := by
  induction n with
  | zero => rfl
  | succ n ih => rw [List.replicate_succ', runE_snoc, ih]; rfl
theorem last_zeros (l : List Int) : lastN (l ++ List.replicate 64 0) = List.replicate 64 0 := by
  unfold lastN
  rw [List.length_append, List.length_replicate, Nat.add_sub_cancel, List.drop_left]
theorem est_zeros (l : List Int) : estE (lastN (l ++ List.replicate 64 0)) = (0, 0) := by
  rw [estE_last]
  unfold estE
  rw [last_zeros, run_zeros]
theorem zeros_next (l : List Int) (n : Nat) : keepN (lastN (l ++ List.replicate n 0)) 0 = lastN (l ++ List.replicate (n + 1) 0) := by
  rw [keep_last]
  unfold keepN
  rw [List.append_assoc, ← List.replicate_succ']
theorem take_next {l : List Int} {k : Nat} (h : k < l.length) : keepN (lastN (l.take k)) (l[k]?.getD 0) = lastN (l.take (k + 1)) := by
  rw [keep_last]
  unfold keepN
  rw [List.take_add_one, List.getElem?_eq_getElem h]
  rfl
/-- the estimate of a part, one number more -/
theorem run_part {l : List Int} {j k : Nat} (hj : j ≤ k) (hk : k < l.length) : runE ((l.take (k + 1)).drop j) = stepE (runE ((l.take k).drop j)) (l[k]?.getD 0) := by
  rw [List.take_add_one, List.getElem?_eq_getElem hk, List.drop_append_of_le_length (by rw [List.length_take]; omega)]
  exact runE_snoc _ _
theorem run_part_bound {l : List Int} {j k : Nat} (hk : k ≤ j + 64) : (runE ((l.take k).drop j)).1 ≤ 70368744177664 ∧ (runE ((l.take k).drop j)).2 ≤ 64 := by
  have h := runE_bound ((l.take k).drop j)
  have : ((l.take k).drop j).length ≤ 64 := by rw [List.length_drop, List.length_take]; omega
  omega
end Go.Proofs.Ytbcmoepbegbnpaa
