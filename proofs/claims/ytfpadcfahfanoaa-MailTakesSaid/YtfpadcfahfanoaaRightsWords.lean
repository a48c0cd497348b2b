/- Books by their numbers: what the document says of configs, shares, rights, books. No function of the program in it. No law is proved here. -/
import Derived.Test.YtfpadcfahfanoaaMg0
import Derived.Test.YtfpadcfahfanoaaMg4
import Derived.Test.YtfpadcfahfanoaaMg2
import Derived.WalkKit
import Derived.WalkLawsBesides
import Derived.LoopTactic
import Derived.IntWalk
namespace Go.Proofs.Ytfpadcfahfanoaa
open Go.RowKit

/-- who's share -/
def shareV (c : Cf) (who : Int) : Int := if cfOk c ∧ 0 ≤ who ∧ who < c.n then c.k / c.n + (if who < c.k - c.k / c.n * c.n then 1 else 0) else 0
theorem shareV_no {c : Cf} {who : Int} (h : ¬ (cfOk c ∧ 0 ≤ who ∧ who < c.n)) : shareV c who = 0 := if_neg h
/-- all that the others moved to who, less all that who moved, of the first k rows -/
def flow (l : List Rw) (who : Nat) : Nat → Int
  | 0 => 0
  | k + 1 => flow l who k + ((at_ l k).out[who]?.getD 0 - (at_ l who).out[k]?.getD 0)
/-- the rights of who -/
def rightsV (c : Cf) (l : List Rw) (who : Nat) : Int := shareV c who + (at_ l who).inc - (at_ l who).use + flow l who l.length
/-- each number Out from 0 to 2^50, and as many as there are rows -/
def Fits (l : List Rw) : Prop := ∀ k, k < l.length → (at_ l k).out.length = l.length ∧ 0 ≤ (at_ l k).inc ∧ (at_ l k).inc ≤ 1099511627776 ∧ 0 ≤ (at_ l k).use ∧ (at_ l k).use ≤ 1099511627776 ∧
  ∀ j, j < l.length → 0 ≤ (at_ l k).out[j]?.getD 0 ∧ (at_ l k).out[j]?.getD 0 ≤ 1125899906842624
theorem flow_bound {l : List Rw} (hF : Fits l) {who : Nat} (hw : who < l.length) : ∀ k, k ≤ l.length → -(1125899906842624 * (k : Int)) ≤ flow l who k ∧ flow l who k ≤ 1125899906842624 * (k : Int)
  | 0, _ => by simp [flow]
  | k + 1, hk => by
    have ih := flow_bound hF hw k (by omega)
    obtain ⟨_, _, _, _, _, h1⟩ := hF k (by omega)
    obtain ⟨_, _, _, _, _, h2⟩ := hF who hw
    have h3 := h1 who hw
    have h4 := h2 k (by omega)
    simp only [flow]
    omega
theorem shareV_bound (c : Cf) (who : Int) : 0 ≤ shareV c who ∧ shareV c who ≤ 1099511627777 := by
  unfold shareV
  split
  · rename_i h
    obtain ⟨⟨g1, _, _, _, _, _, _, _, g9, g10, g11⟩, _, _⟩ := h
    have := Int.mul_nonneg (show 0 ≤ c.n by omega) g10
    have := Int.ediv_nonneg g9 (show 0 ≤ c.n by omega)
    have := Int.ediv_le_self c.n g9
    split <;> omega
  · omega
theorem fits_iff (la : List Int) (who : Int) : fits (la.zip (mosts who la.length)) = true ↔ ∀ k, k < la.length → 0 ≤ la[k]?.getD 0 ∧ la[k]?.getD 0 ≤ mostOf who k := by
  unfold fits
  rw [List.all_eq_true]
  constructor
  · intro h k hk
    have := h ((la.zip (mosts who la.length))[k]'(by rw [List.length_zip, mosts_length]; omega)) (List.getElem_mem _)
    have := of_decide_eq_true this
    rw [List.getElem_zip] at this
    have e := mosts_at who la.length k hk
    rw [List.getElem?_eq_getElem (by rw [mosts_length]; exact hk)] at e
    rw [List.getElem?_eq_getElem hk]
    simp only [Option.getD_some] at e ⊢
    rw [e] at this
    exact this
  · intro h x hx
    obtain ⟨k, hk, rfl⟩ := List.getElem_of_mem hx
    rw [List.length_zip, mosts_length] at hk
    have := h k (by omega)
    apply decide_eq_true
    rw [List.getElem_zip]
    have e := mosts_at who la.length k (by omega)
    rw [List.getElem?_eq_getElem (by rw [mosts_length]; omega)] at e
    rw [List.getElem?_eq_getElem (show k < la.length by omega)] at this
    simp only [Option.getD_some] at e this
    rw [e]
    exact this
theorem mayR_iff (i u : Int) (la : List Int) (n who : Int) : mayR i u la n who = true ↔ (la.length : Int) = n ∧ 0 ≤ who ∧ who < n ∧ (0 ≤ i ∧ i ≤ 1099511627776) ∧ (0 ≤ u ∧ u ≤ 1099511627776) ∧ ∀ k, k < la.length → 0 ≤ la[k]?.getD 0 ∧ la[k]?.getD 0 ≤ mostOf who k := by
  unfold mayR countB
  rw [Bool.and_eq_true, Bool.and_eq_true, Bool.and_eq_true, decide_eq_true_eq, decide_eq_true_eq, decide_eq_true_eq, fits_iff]
  constructor
  · rintro ⟨⟨⟨h1, h2, h3⟩, h4, h5⟩, h6⟩
    exact ⟨h1, h2, h3, h4, h5, h6⟩
  · rintro ⟨h1, h2, h3, h4, h5, h6⟩
    exact ⟨⟨⟨h1, h2, h3⟩, h4, h5⟩, h6⟩
theorem mayR_no {i u : Int} {la : List Int} {n who : Int} (h : ¬ ((la.length : Int) = n ∧ 0 ≤ who ∧ who < n ∧ (0 ≤ i ∧ i ≤ 1099511627776) ∧ (0 ≤ u ∧ u ≤ 1099511627776) ∧ ∀ k, k < la.length → 0 ≤ la[k]?.getD 0 ∧ la[k]?.getD 0 ≤ mostOf who k)) : mayR i u la n who = false := by
  cases e : mayR i u la n who with
  | false => rfl
  | true => exact absurd ((mayR_iff _ _ _ _ _).1 e) h
/-- books are right, by a config -/
def rightOk (c : Cf) (l : List Rw) : Prop := cfOk c ∧ (l.length : Int) = c.n ∧ (∀ i, i < l.length → mayR (at_ l i).inc (at_ l i).use (at_ l i).out c.n i = true ∧ (at_ l i).inc ≤ c.c) ∧ ∀ i, i < l.length → 0 ≤ rightsV c l i
instance (c : Cf) (l : List Rw) : Decidable (rightOk c l) := by unfold rightOk; exact inferInstance
def rightB (c : Cf) (l : List Rw) : Bool := decide (rightOk c l)
theorem rightB_no {c : Cf} {l : List Rw} (h : ¬ rightOk c l) : rightB c l = false := decide_eq_false h
theorem rightB_ok {c : Cf} {l : List Rw} (h : rightB c l = true) : rightOk c l := of_decide_eq_true h
theorem fits_of_may {l : List Rw} (h : ∀ i, i < l.length → mayR (at_ l i).inc (at_ l i).use (at_ l i).out (l.length : Int) i = true) : Fits l := by
  intro k hk
  obtain ⟨h1, h2, h3, ⟨h4, h5⟩, ⟨h6, h7⟩, h8⟩ := (mayR_iff _ _ _ _ _).1 (h k hk)
  refine ⟨by omega, h4, h5, h6, h7, fun j hj => ?_⟩
  have h9 := h8 j (by omega)
  unfold mostOf at h9
  split at h9 <;> omega
theorem rightOk.fits {c : Cf} {l : List Rw} (h : rightOk c l) : Fits l := fits_of_may fun i hi => by rw [h.2.1]; exact (h.2.2.1 i hi).1
theorem rightOk.len {c : Cf} {l : List Rw} (h : rightOk c l) : l.length ≤ 16 := by have := h.1.2.1; have := h.2.1; omega
/-- the rights of one: of right books, and who from 0 to below n; else 0 -/
def ofV (c : Cf) (l : List Rw) (who : Int) : Int := if rightOk c l ∧ 0 ≤ who ∧ who < c.n then rightsV c l who.toNat else 0
/-- the rights of the first k together -/
def sumRights (c : Cf) (l : List Rw) : Nat → Int
  | 0 => 0
  | k + 1 => sumRights c l k + rightsV c l k
/-- all rights together, of right books; else 0 -/
def valueV (c : Cf) (l : List Rw) : Int := if rightOk c l then sumRights c l l.length else 0
theorem rightsV_bound {c : Cf} {l : List Rw} (hF : Fits l) (h16 : l.length ≤ 16) {who : Nat} (hw : who < l.length) : -(1125899906842624 * 17) ≤ rightsV c l who ∧ rightsV c l who ≤ 1125899906842624 * 17 := by
  have h1 := flow_bound hF hw l.length (Nat.le_refl _)
  have h2 := shareV_bound c who
  obtain ⟨_, h3, h4, h5, h6, _⟩ := hF who hw
  unfold rightsV
  omega
theorem sumRights_bound {c : Cf} {l : List Rw} (hF : Fits l) (h16 : l.length ≤ 16) : ∀ k, k ≤ l.length → -(1125899906842624 * 17 * (k : Int)) ≤ sumRights c l k ∧ sumRights c l k ≤ 1125899906842624 * 17 * (k : Int)
  | 0, _ => by simp [sumRights]
  | k + 1, hk => by
    have ih := sumRights_bound (c := c) hF h16 k (by omega)
    have h := rightsV_bound (c := c) hF h16 (who := k) (by omega)
    simp only [sumRights]
    omega
/-- the same books -/
def sameL (la lb : List Rw) : Bool := decide (la.length = lb.length ∧ ∀ k, k < la.length → sameB (at_ la k).inc (at_ la k).use (at_ la k).out (at_ lb k).inc (at_ lb k).use (at_ lb k).out = true)
theorem sameL_no {la lb : List Rw} (h : ¬ (la.length = lb.length ∧ ∀ k, k < la.length → sameB (at_ la k).inc (at_ la k).use (at_ la k).out (at_ lb k).inc (at_ lb k).use (at_ lb k).out = true)) : sameL la lb = false := decide_eq_false h
theorem sameL_self (l : List Rw) : sameL l l = true := decide_eq_true ⟨rfl, fun _ _ => decide_eq_true ⟨rfl, rfl, rfl⟩⟩
theorem sameL_eq {la lb : List Rw} (h : sameL la lb = true) : la = lb := by
  obtain ⟨h1, h2⟩ := of_decide_eq_true h
  apply List.ext_getElem h1
  intro k hk1 hk2
  have := of_decide_eq_true (h2 k hk1)
  rw [at_lt hk1, at_lt hk2] at this
  obtain ⟨e1, e2, e3⟩ := this
  cases ha : la[k]; cases hb : lb[k]
  rw [ha, hb] at e1 e2 e3
  simp only at e1 e2 e3
  rw [e1, e2, e3]
/-- what memory can hold -/
def Reach (l : List Rw) : Prop := l.length ≤ 17592186044416 ∧ ∀ k, k < l.length → (at_ l k).out.length ≤ 17592186044416
/-- the numbers of the first k rows, and one a row -/
def bulk (l : List Rw) : Nat → Nat
  | 0 => l.length
  | k + 1 => bulk l k + (at_ l k).out.length
theorem bulk_mono (l : List Rw) : ∀ j k, j ≤ k → bulk l j ≤ bulk l k
  | j, 0, h => by obtain rfl : j = 0 := by omega
                  exact Nat.le_refl _
  | j, k + 1, h => by
    by_cases e : j = k + 1
    · rw [e]; exact Nat.le_refl _
    · exact Nat.le_trans (bulk_mono l j k (by omega)) (by simp only [bulk]; omega)
def shortB (l : List Rw) : Bool := decide (bulk l l.length ≤ 400)
theorem shortB_len {l : List Rw} (h : shortB l = true) : l.length ≤ 400 ∧ ∀ k, k < l.length → (at_ l k).out.length ≤ 400 := by
  have h' : bulk l l.length ≤ 400 := of_decide_eq_true h
  refine ⟨?_, fun k hk => ?_⟩
  · have := bulk_mono l 0 l.length (Nat.zero_le _)
    simp only [bulk] at this; omega
  · have := bulk_mono l (k + 1) l.length hk
    simp only [bulk] at this; omega
/-- the rows of the first k -/
theorem take_at {l : List Rw} {k : Nat} (h : k < l.length) : l.take (k + 1) = l.take k ++ [at_ l k] := by
  rw [List.take_succ_eq_append_getElem h, at_lt h]
theorem one_row {w : World} {g : Nat} {i u : Int} {v : Value} (h : Whole w g 59 #[.int .i64 i, .int .i64 u, v]) : Elems w (.slice (some ⟨g, 0, none⟩) 1 1) 3 1 (fun _ j => if j = 0 then .int .i64 i else if j = 1 then .int .i64 u else v) := by
  refine ⟨by decide, Or.inr ⟨g, 0, 1, rfl, Nat.le_refl _, fun i' j hi hj => ?_⟩⟩
  obtain rfl : i' = 0 := by omega
  rw [h.cell]
  match j, hj with
  | 0, _ => rfl
  | 1, _ => rfl
  | 2, _ => rfl
/-- books of the call's own: so many rows -/
def Copied (w : World) (l : List Rw) (e : Ending) (w' : World) : Prop := ∃ A C, e = .returned (.slice A l.length C) ∧ OwnBooks w' w.heap.size (.slice A l.length C) l ∧ Below w.heap.size w w'
/-- a row without anything, among n -/
def zeroRow (n : Nat) : Rw := ⟨0, 0, List.replicate n 0⟩
/-- books without anything, of a config that may be; else none -/
def newL (c : Cf) : List Rw := if cfOk c then List.replicate c.n.toNat (zeroRow c.n.toNat) else []
theorem made_flat (n : Nat) : (madeCells #[.int .i64 0] n).toList = (List.replicate n (0 : Int)).map (Value.int .i64) := by
  unfold madeCells
  apply List.ext_getElem
  · simp
  · intro i h1 h2
    simp [Nat.mod_one]
/-- two rows joined -/
def joinRw (x y : Rw) : Rw := ⟨max x.inc y.inc, max x.use y.use, joinL x.out y.out⟩
def joinLs (la lb : List Rw) : List Rw := List.zipWith joinRw la lb
theorem joinLs_length {la lb : List Rw} (h : la.length = lb.length) : (joinLs la lb).length = la.length := by simp [joinLs, h]
theorem joinLs_at {la lb : List Rw} (h : la.length = lb.length) {k : Nat} (hk : k < la.length) : at_ (joinLs la lb) k = joinRw (at_ la k) (at_ lb k) := by
  have h2 : k < lb.length := by omega
  have h3 : k < (List.zipWith joinRw la lb).length := by rw [List.length_zipWith]; omega
  simp [joinLs, at_, hk, h2, List.getElem?_eq_getElem h3]
/-- books joined, and what came of it -/
def joinR (c : Cf) (la lb : List Rw) : List Rw × Int := if rightOk c la ∧ rightOk c lb then (if rightOk c (joinLs la lb) then (joinLs la lb, 0) else ([], 7)) else ([], 1)
def JoinedB (w : World) (x : List Rw × Int) (e : Ending) (w' : World) : Prop :=
  ∃ A C, e = .returned (.tuple #[.slice A x.1.length C, .int .i64 x.2]) ∧ Books w' (.slice A x.1.length C) x.1 ∧ Below w.heap.size w w'
/-- is one who is asked for there -/
def askedV (c : Cf) (l : List Rw) (who amount : Int) : Int := if rightOk c l ∧ 0 ≤ who ∧ who < c.n then (if 1 ≤ amount ∧ amount ≤ 1099511627776 then 0 else 2) else 1
theorem askedV_no {c : Cf} {l : List Rw} {who amount : Int} (h : ¬ (rightOk c l ∧ 0 ≤ who ∧ who < c.n)) : askedV c l who amount = 1 := if_neg h
theorem askedV_zero {c : Cf} {l : List Rw} {who amount : Int} (h : askedV c l who amount = 0) : rightOk c l ∧ 0 ≤ who ∧ who < c.n ∧ 1 ≤ amount ∧ amount ≤ 1099511627776 := by
  unfold askedV at h
  split at h
  · rename_i h1
    split at h
    · rename_i h2; exact ⟨h1.1, h1.2.1, h1.2.2, h2⟩
    · cases h
  · cases h
theorem askedV_cases (c : Cf) (l : List Rw) (who amount : Int) : askedV c l who amount = 0 ∨ askedV c l who amount = 1 ∨ askedV c l who amount = 2 := by
  unfold askedV
  split
  · split
    · exact Or.inl rfl
    · exact Or.inr (Or.inr rfl)
  · exact Or.inr (Or.inl rfl)
theorem cf_most {c : Cf} (h : cfOk c) : 0 ≤ c.c ∧ c.c ≤ 1099511627776 := by
  obtain ⟨h1, _, _, _, _, _, _, _, h9, h10, h11⟩ := h
  refine ⟨h10, ?_⟩
  have := Int.mul_le_mul_of_nonneg_right h1 h10
  omega
/-- put in -/
def putR (c : Cf) (l : List Rw) (who amount : Int) : List Rw × Int :=
  if askedV c l who amount = 0 then
    (if amount ≤ c.c - (at_ l who.toNat).inc then (l.set who.toNat ⟨(at_ l who.toNat).inc + amount, (at_ l who.toNat).use, (at_ l who.toNat).out⟩, 0) else ([], 4))
  else ([], askedV c l who amount)
/-- taken out -/
def takeR (c : Cf) (l : List Rw) (who amount : Int) : List Rw × Int :=
  if askedV c l who amount = 0 then
    (if amount ≤ rightsV c l who.toNat then (if (at_ l who.toNat).use + amount ≤ 1099511627776 then (l.set who.toNat ⟨(at_ l who.toNat).inc, (at_ l who.toNat).use + amount, (at_ l who.toNat).out⟩, 0) else ([], 6)) else ([], 7))
  else ([], askedV c l who amount)
/-- moved on -/
def moveR (c : Cf) (l : List Rw) (who tg amount : Int) : List Rw × Int :=
  if askedV c l who amount ≠ 1 ∧ 0 ≤ tg ∧ tg < c.n ∧ tg ≠ who then
    (if askedV c l who amount = 0 then
      (if amount ≤ rightsV c l who.toNat then
        (if (at_ l who.toNat).out[tg.toNat]?.getD 0 + amount ≤ 1125899906842624 then (l.set who.toNat ⟨(at_ l who.toNat).inc, (at_ l who.toNat).use, (at_ l who.toNat).out.set tg.toNat ((at_ l who.toNat).out[tg.toNat]?.getD 0 + amount)⟩, 0) else ([], 6))
        else ([], 7))
      else ([], 2))
  else ([], 1)
/-- a number, and what was there has not turned -/
def Num (w : World) (x : Int) (e : Ending) (w' : World) : Prop := e = .returned (.int .i64 x) ∧ Below w.heap.size w w'
/-- books -/
def MadeL (w : World) (l : List Rw) (e : Ending) (w' : World) : Prop := ∃ A C, e = .returned (.slice A l.length C) ∧ Books w' (.slice A l.length C) l ∧ Below w.heap.size w w'
/-- there is such a replica -/
def amongB (c : Cf) (who : Int) : Bool := decide (0 ≤ who ∧ who < c.n)
theorem amongB_yes {c : Cf} {who : Int} (h : 0 ≤ who ∧ who < c.n) : amongB c who = true := decide_eq_true h
theorem amongB_no {c : Cf} {who : Int} (h : ¬ (0 ≤ who ∧ who < c.n)) : amongB c who = false := decide_eq_false h
theorem rem_eq {k n : Int} : k % n = k - k / n * n := by
  have := Int.mul_ediv_add_emod k n
  rw [Int.mul_comm] at this
  omega
/-- so many numbers together -/
def sumN (g : Nat → Int) : Nat → Int
  | 0 => 0
  | k + 1 => sumN g k + g k
theorem sumN_bound {g : Nat → Int} {b : Int} {n : Nat} (h : ∀ k, k < n → -b ≤ g k ∧ g k ≤ b) : ∀ k, k ≤ n → -(b * (k : Int)) ≤ sumN g k ∧ sumN g k ≤ b * (k : Int)
  | 0, _ => by simp [sumN]
  | k + 1, hk => by
    have ih := sumN_bound h k (by omega)
    have h1 := h k (by omega)
    simp only [sumN]
    rw [show ((k + 1 : Nat) : Int) = (k : Int) + 1 by omega, Int.mul_add, Int.mul_one]
    omega
theorem rPut_one {c : Cf} {l : List Rw} {who amount : Int} (h : ¬ (rightOk c l ∧ 0 ≤ who ∧ who < c.n)) : putR c l who amount = ([], 1) := by
  unfold putR; rw [askedV_no h]; exact if_neg (by decide)
theorem askedV_two {c : Cf} {l : List Rw} {who amount : Int} (h : rightOk c l ∧ 0 ≤ who ∧ who < c.n) (hw : ¬ (1 ≤ amount ∧ amount ≤ 1099511627776)) : askedV c l who amount = 2 := by
  unfold askedV; rw [if_pos h, if_neg hw]
theorem askedV_none {c : Cf} {l : List Rw} {who amount : Int} (h : rightOk c l ∧ 0 ≤ who ∧ who < c.n) (hw : 1 ≤ amount ∧ amount ≤ 1099511627776) : askedV c l who amount = 0 := by
  unfold askedV; rw [if_pos h, if_pos hw]
theorem rPut_two {c : Cf} {l : List Rw} {who amount : Int} (h : rightOk c l ∧ 0 ≤ who ∧ who < c.n) (hw : ¬ (1 ≤ amount ∧ amount ≤ 1099511627776)) : putR c l who amount = ([], 2) := by
  unfold putR; rw [askedV_two h hw]; exact if_neg (by decide)
theorem rPut_three {c : Cf} {l : List Rw} {who amount : Int} (h : rightOk c l ∧ 0 ≤ who ∧ who < c.n) (hw : 1 ≤ amount ∧ amount ≤ 1099511627776) :
    putR c l who amount = if amount ≤ c.c - (at_ l who.toNat).inc then (l.set who.toNat ⟨(at_ l who.toNat).inc + amount, (at_ l who.toNat).use, (at_ l who.toNat).out⟩, 0) else ([], 4) := by
  unfold putR; rw [if_pos (askedV_none h hw)]
theorem rTake_one {c : Cf} {l : List Rw} {who amount : Int} (h : ¬ (rightOk c l ∧ 0 ≤ who ∧ who < c.n)) : takeR c l who amount = ([], 1) := by
  unfold takeR; rw [askedV_no h]; exact if_neg (by decide)
theorem rTake_two {c : Cf} {l : List Rw} {who amount : Int} (h : rightOk c l ∧ 0 ≤ who ∧ who < c.n) (hw : ¬ (1 ≤ amount ∧ amount ≤ 1099511627776)) : takeR c l who amount = ([], 2) := by
  unfold takeR; rw [askedV_two h hw]; exact if_neg (by decide)
theorem rTake_three {c : Cf} {l : List Rw} {who amount : Int} (h : rightOk c l ∧ 0 ≤ who ∧ who < c.n) (hw : 1 ≤ amount ∧ amount ≤ 1099511627776) :
    takeR c l who amount = if amount ≤ rightsV c l who.toNat then (if (at_ l who.toNat).use + amount ≤ 1099511627776 then (l.set who.toNat ⟨(at_ l who.toNat).inc, (at_ l who.toNat).use + amount, (at_ l who.toNat).out⟩, 0) else ([], 6)) else ([], 7) := by
  unfold takeR; rw [if_pos (askedV_none h hw)]
theorem rMove_one {c : Cf} {l : List Rw} {who tg amount : Int} (h : ¬ (rightOk c l ∧ (0 ≤ who ∧ who < c.n) ∧ (0 ≤ tg ∧ tg < c.n) ∧ tg ≠ who)) : moveR c l who tg amount = ([], 1) := by
  unfold moveR
  refine if_neg fun h' => ?_
  by_cases h2 : rightOk c l ∧ 0 ≤ who ∧ who < c.n
  · exact h ⟨h2.1, h2.2, ⟨h'.2.1, h'.2.2.1⟩, h'.2.2.2⟩
  · exact h'.1 (askedV_no h2)
theorem rMove_two {c : Cf} {l : List Rw} {who tg amount : Int} (h : rightOk c l ∧ (0 ≤ who ∧ who < c.n) ∧ (0 ≤ tg ∧ tg < c.n) ∧ tg ≠ who) (hw : ¬ (1 ≤ amount ∧ amount ≤ 1099511627776)) : moveR c l who tg amount = ([], 2) := by
  have e := askedV_two ⟨h.1, h.2.1⟩ hw
  unfold moveR; rw [e, if_pos ⟨by decide, h.2.2.1.1, h.2.2.1.2, h.2.2.2⟩]; exact if_neg (by decide)
theorem rMove_three {c : Cf} {l : List Rw} {who tg amount : Int} (h : rightOk c l ∧ (0 ≤ who ∧ who < c.n) ∧ (0 ≤ tg ∧ tg < c.n) ∧ tg ≠ who) (hw : 1 ≤ amount ∧ amount ≤ 1099511627776) :
    moveR c l who tg amount = if amount ≤ rightsV c l who.toNat then
        (if (at_ l who.toNat).out[tg.toNat]?.getD 0 + amount ≤ 1125899906842624 then (l.set who.toNat ⟨(at_ l who.toNat).inc, (at_ l who.toNat).use, (at_ l who.toNat).out.set tg.toNat ((at_ l who.toNat).out[tg.toNat]?.getD 0 + amount)⟩, 0) else ([], 6))
        else ([], 7) := by
  have e := askedV_none ⟨h.1, h.2.1⟩ hw
  unfold moveR; rw [e, if_pos ⟨by decide, h.2.2.1.1, h.2.2.1.2, h.2.2.2⟩]; exact if_pos rfl
end Go.Proofs.Ytfpadcfahfanoaa
