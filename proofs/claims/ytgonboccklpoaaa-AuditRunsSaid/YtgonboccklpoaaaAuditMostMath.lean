/- Layer 15's mathematics: an audit told twice of the same books by all. No program in it; no law is proved here. -/
import Derived.Test.YtgonboccklpoaaaMg14
namespace Go.Proofs.Ytgonboccklpoaaa

theorem tab_at {α : Type} (n : Nat) (f : Nat → α) (d : α) {i : Nat} (h : i < n) : ((List.range n).map f)[i]?.getD d = f i := by
  rw [List.getElem?_map, List.getElem?_range h]; rfl
theorem tab_len {α : Type} (n : Nat) (f : Nat → α) : ((List.range n).map f).length = n := by rw [List.length_map, List.length_range]
theorem tab_ext {α : Type} {n : Nat} {f g : Nat → α} (h : ∀ i, i < n → f i = g i) : (List.range n).map f = (List.range n).map g :=
  List.map_congr_left fun i hi => h i (List.mem_range.1 hi)
theorem tab_rep {α : Type} (n : Nat) (x : α) : List.replicate n x = (List.range n).map fun _ => x := by
  refine List.ext_getElem (by simp) fun i hi hj => ?_
  simp
theorem tab_set {α : Type} {n : Nat} {f : Nat → α} {k : Nat} {x : α} : ((List.range n).map f).set k x = (List.range n).map fun i => if i = k then x else f i := by
  refine List.ext_getElem (by simp) fun i hi hj => ?_
  rw [List.getElem_set]
  by_cases h : k = i
  · rw [if_pos h]; simp [h]
  · rw [if_neg h]
    have h2 : ¬ i = k := fun e => h e.symm
    simp [h2]
theorem au_eq {t p : Int} {b b' : List Bool} {u u' i i' : List Int} {m : Bool} (h1 : b = b') (h2 : u = u') (h3 : i = i') : (⟨t, p, b, u, i, m⟩ : Au) = ⟨t, p, b', u', i', m⟩ := by rw [h1, h2, h3]
/-- the audit of u, in the phase ph, when those below k told of the same books -/
def mostA (tr : Int) (l : List Rw) (u : Nat) (ph : Int) (k : Nat) : Au :=
  ⟨tr, ph, (List.range l.length).map (fun i => decide (i < k ∧ i ≠ u)), (List.range l.length).map (fun i => if ph = 2 ∨ (i < k ∧ i ≠ u) then (at_ l i).use else 0), (List.range l.length).map (fun i => if ph = 2 ∧ (i < k ∧ i ≠ u) then (at_ l i).inc else 0), false⟩
theorem most_begin {c : Cf} {who tr : Int} {l : List Rw} (h : cfOk c ∧ (0 ≤ who ∧ who < c.n) ∧ (1 ≤ tr ∧ tr ≤ 1125899906842624)) (hl : (l.length : Int) = c.n) : beginA c who tr = (mostA tr l who.toNat 1 0, 0) := by
  rw [begin_yes h]
  have hn : c.n.toNat = l.length := by omega
  rw [hn]
  unfold mostA
  congr 1
  refine au_eq ?_ ?_ ?_
  · rw [tab_rep]; exact tab_ext fun i _ => (decide_eq_false (by omega)).symm
  · rw [tab_rep]; exact tab_ext fun i _ => (if_neg (by omega)).symm
  · rw [tab_rep]; exact tab_ext fun i _ => (if_neg (by omega)).symm
theorem most_ok {c : Cf} {who tr : Int} {l : List Rw} {ph : Int} {k : Nat} (hr : rightOk c l) (hw : 0 ≤ who ∧ who < c.n) (ht : 1 ≤ tr ∧ tr ≤ 1125899906842624) (hp : ph = 1 ∨ ph = 2) : auOk c who (mostA tr l who.toNat ph k) := by
  have hl := hr.2.1
  refine ⟨hr.1, hw, Or.inr ⟨⟨show 0 < tr by omega, ht.2⟩, hp, ?_, ?_, ?_, ?_, fun i hi => ?_⟩⟩
  · show ((List.map _ _).length : Int) = c.n; rw [tab_len]; exact hl
  · show ((List.map _ _).length : Int) = c.n; rw [tab_len]; exact hl
  · show ((List.map _ _).length : Int) = c.n; rw [tab_len]; exact hl
  · show ((List.range l.length).map _)[who.toNat]?.getD false = false
    rw [tab_at _ _ _ (by omega)]
    exact decide_eq_false (by omega)
  · have hi : i < ((List.range l.length).map fun i => decide (i < k ∧ i ≠ who.toNat)).length := hi
    rw [tab_len] at hi
    have hf := hr.fits i hi
    show (0 ≤ ((List.range l.length).map _)[i]?.getD 0 ∧ ((List.range l.length).map _)[i]?.getD 0 ≤ _) ∧ (0 ≤ ((List.range l.length).map _)[i]?.getD 0 ∧ ((List.range l.length).map _)[i]?.getD 0 ≤ _)
    rw [tab_at _ _ _ hi, tab_at _ _ _ hi]
    refine ⟨?_, ?_⟩
    · split <;> omega
    · split <;> omega
theorem most_skip (tr : Int) (l : List Rw) (u : Nat) (ph : Int) : mostA tr l u ph (u + 1) = mostA tr l u ph u := by
  unfold mostA
  refine au_eq ?_ ?_ ?_
  · exact tab_ext fun i _ => by congr 1; exact propext ⟨fun h => by omega, fun h => by omega⟩
  · exact tab_ext fun i _ => by
      by_cases h : ph = 2 ∨ (i < u ∧ i ≠ u)
      · rw [if_pos h, if_pos (by omega)]
      · rw [if_neg h, if_neg (by omega)]
  · exact tab_ext fun i _ => by
      by_cases h : ph = 2 ∧ (i < u ∧ i ≠ u)
      · rw [if_pos h, if_pos (by omega)]
      · rw [if_neg h, if_neg (by omega)]
/-- the message of k, by the same books -/
def mostM (tr : Int) (l : List Rw) (u : Nat) (ph : Int) (k : Nat) : Ml := ⟨k, u, 1, l, 0, 0, 0, 0, 0, 0, (List.replicate l.length ((0, 0) : Int × Int)).set u (tr, ph)⟩
theorem echo_at {n u : Nat} {x : Int × Int} (hu : u < n) (i : Nat) : lkAt ((List.replicate n ((0, 0) : Int × Int)).set u x) i = if i = u then x else (0, 0) := by
  unfold lkAt
  by_cases h : i = u
  · rw [if_pos h, h, List.getElem?_set_self (by simpa using hu)]; rfl
  · rw [if_neg h, List.getElem?_set_ne (fun e => h e.symm), List.getElem?_replicate]
    split <;> rfl
theorem most_mail {c : Cf} {who tr : Int} {l : List Rw} {ph : Int} {k : Nat} (hr : rightOk c l) (hw : 0 ≤ who ∧ who < c.n) (ht : 1 ≤ tr ∧ tr ≤ 1125899906842624) (hp : ph = 1 ∨ ph = 2) (hk : k < l.length) (hne : k ≠ who.toNat) : mailOk c (mostM tr l who.toNat ph k) := by
  have hl := hr.2.1
  have hc := hr.1
  unfold cfOk at hc
  refine ⟨hr, ⟨show (0 : Int) ≤ (k : Int) by omega, show (k : Int) < c.n by omega⟩, ⟨show (0 : Int) ≤ (who.toNat : Int) by omega, show (who.toNat : Int) < c.n by omega⟩, show (k : Int) ≠ (who.toNat : Int) by omega, by show (1 : Int) ≠ 0; decide, ?_, fun i hi => ?_, ?_⟩
  · show (((List.replicate l.length ((0, 0) : Int × Int)).set who.toNat (tr, ph)).length : Int) = c.n
    rw [List.length_set, List.length_replicate]; exact hl
  · show lookB (lkAt ((List.replicate l.length ((0, 0) : Int × Int)).set who.toNat (tr, ph)) i).1 (lkAt ((List.replicate l.length ((0, 0) : Int × Int)).set who.toNat (tr, ph)) i).2 = true ∧ ((i : Int) = (k : Int) → ¬ 0 < (lkAt ((List.replicate l.length ((0, 0) : Int × Int)).set who.toNat (tr, ph)) i).2)
    rw [echo_at (by omega)]
    by_cases h : i = who.toNat
    · rw [if_pos h]
      exact ⟨decide_eq_true (Or.inr (by show 0 < tr ∧ tr ≤ _ ∧ 0 < ph ∧ ph < 3; omega)), fun e => by omega⟩
    · rw [if_neg h]
      exact ⟨by decide, fun _ => by decide⟩
  · show noteB c (k : Int) ⟨1, 0, 0, 0, 0, 0, 0⟩ = true
    unfold noteB
    have e1 : decide ((0 : Int) ≤ 1 ∧ (1 : Int) ≤ 1125899906842624) = true := by decide
    have e2 : noHead ⟨1, 0, 0, 0, 0, 0, 0⟩ = true := by decide
    have e3 : decide ((0 : Int) ≤ 0 ∧ (0 : Int) ≤ c.r) = true := decide_eq_true (by omega)
    have e4 : lookB 0 0 = true := by decide
    simp only [e1, e2, e3, e4, Bool.true_or, Bool.and_true]
theorem most_none {tr : Int} (ht : 1 ≤ tr) (l : List Rw) (u : Nat) (ph : Int) (k : Nat) : noneA (mostA tr l u ph k) = false := decide_eq_false fun h => by
  have : tr = 0 := congrArg Au.try_ h
  omega
theorem most_tell {c : Cf} {who tr : Int} {l : List Rw} {ph : Int} {k : Nat} (hr : rightOk c l) (hw : 0 ≤ who ∧ who < c.n) (ht : 1 ≤ tr ∧ tr ≤ 1125899906842624) (hp : ph = 1 ∨ ph = 2) (hk : k < l.length) (hne : k ≠ who.toNat) :
    tellA c who (mostA tr l who.toNat ph k) (mostM tr l who.toNat ph k) = (mostA tr l who.toNat ph (k + 1), 0) := by
  have hl := hr.2.1
  unfold tellA
  rw [if_pos ⟨most_ok hr hw ht hp, most_mail hr hw ht hp hk hne, show (who.toNat : Int) = who by omega⟩]
  have hh : hearsA who (mostA tr l who.toNat ph k) (mostM tr l who.toNat ph k) = true := by
    unfold hearsA
    rw [most_none ht.1]
    have e1 : lkAt (mostM tr l who.toNat ph k).echo who.toNat = (tr, ph) := by
      show lkAt ((List.replicate l.length ((0, 0) : Int × Int)).set who.toNat (tr, ph)) who.toNat = _
      rw [echo_at (by omega), if_pos rfl]
    have e2 : (mostA tr l who.toNat ph k).told[(mostM tr l who.toNat ph k).fr.toNat]?.getD false = false := by
      show ((List.range l.length).map _)[((k : Int)).toNat]?.getD false = false
      rw [Int.toNat_natCast, tab_at _ _ _ hk]
      exact decide_eq_false (by omega)
    rw [e1, e2]
    have e3 : decide ((tr, ph).1 = (mostA tr l who.toNat ph k).try_ ∧ (tr, ph).2 = (mostA tr l who.toNat ph k).ph) = true := decide_eq_true ⟨rfl, rfl⟩
    rw [e3]; rfl
  rw [if_pos hh]
  congr 1
  have ek : (mostM tr l who.toNat ph k).fr.toNat = k := by show ((k : Int)).toNat = k; exact Int.toNat_natCast k
  have er : rowOf (mostM tr l who.toNat ph k) = at_ l k := by unfold rowOf; rw [ek]; rfl
  unfold toldA
  rw [ek, er]
  rcases hp with rfl | rfl
  · rw [if_pos (show (mostA tr l who.toNat 1 k).ph = 1 from rfl)]
    unfold mostA
    refine au_eq ?_ ?_ ?_
    · rw [tab_set]; exact tab_ext fun i _ => by
        by_cases h : i = k
        · rw [if_pos h]; exact (decide_eq_true (by omega)).symm
        · rw [if_neg h]; congr 1; exact propext ⟨fun h => by omega, fun h => by omega⟩
    · rw [tab_set]; exact tab_ext fun i _ => by
        by_cases h : i = k
        · rw [if_pos h, if_pos (by omega), h]
        · rw [if_neg h]
          by_cases h2 : i < k ∧ i ≠ who.toNat
          · rw [if_pos (Or.inr h2), if_pos (by omega)]
          · rw [if_neg (by omega), if_neg (by omega)]
    · exact tab_ext fun i _ => by rw [if_neg (by omega), if_neg (by omega)]
  · rw [if_neg (show ¬ (mostA tr l who.toNat 2 k).ph = 1 by show ¬ (2 : Int) = 1; decide)]
    have em : ((mostA tr l who.toNat 2 k).moved || decide ((at_ l k).use ≠ (mostA tr l who.toNat 2 k).use[k]?.getD 0)) = false := by
      have : (mostA tr l who.toNat 2 k).use[k]?.getD 0 = (at_ l k).use := by
        show ((List.range l.length).map _)[k]?.getD 0 = _
        rw [tab_at _ _ _ hk, if_pos (Or.inl rfl)]
      rw [this]
      show (false || decide ((at_ l k).use ≠ (at_ l k).use)) = false
      rw [decide_eq_false (fun h => h rfl)]; rfl
    rw [em]
    unfold mostA
    refine au_eq ?_ ?_ ?_
    · rw [tab_set]; exact tab_ext fun i _ => by
        by_cases h : i = k
        · rw [if_pos h]; exact (decide_eq_true (by omega)).symm
        · rw [if_neg h]; congr 1; exact propext ⟨fun h => by omega, fun h => by omega⟩
    · exact tab_ext fun i _ => by rw [if_pos (Or.inl rfl), if_pos (Or.inl rfl)]
    · rw [tab_set]; exact tab_ext fun i _ => by
        by_cases h : i = k
        · rw [if_pos h, if_pos (by omega), h]
        · rw [if_neg h]
          by_cases h2 : i < k ∧ i ≠ who.toNat
          · rw [if_pos ⟨rfl, h2⟩, if_pos (by omega)]
          · rw [if_neg (by omega), if_neg (by omega)]
theorem most_all {tr who : Int} {l : List Rw} {ph : Int} (h0 : 0 ≤ who) (hl : 0 < l.length) : allA who (mostA tr l who.toNat ph l.length) := by
  refine ⟨by show 0 < (List.map _ _).length; rw [tab_len]; exact hl, fun i hi => ?_⟩
  have hi : i < ((List.range l.length).map fun i => decide (i < l.length ∧ i ≠ who.toNat)).length := hi
  rw [tab_len] at hi
  by_cases h : (i : Int) = who
  · exact Or.inr h
  · refine Or.inl ?_
    show ((List.range l.length).map _)[i]?.getD false = true
    rw [tab_at _ _ _ hi]
    exact decide_eq_true (by omega)
theorem most_next {c : Cf} {who tr : Int} {l : List Rw} (hr : rightOk c l) (hw : 0 ≤ who ∧ who < c.n) (ht : 1 ≤ tr ∧ tr ≤ 1125899906842624) : nextA c who (mostA tr l who.toNat 1 l.length) l = (mostA tr l who.toNat 2 0, true) := by
  have hl := hr.2.1
  unfold nextA
  rw [if_pos ⟨most_ok hr hw ht (Or.inl rfl), hr⟩, if_pos ⟨rfl, most_all hw.1 (by omega)⟩]
  congr 1
  unfold mostA
  refine au_eq ?_ ?_ ?_
  · rw [tab_len, tab_rep]; exact tab_ext fun i _ => (decide_eq_false (by omega)).symm
  · rw [tab_set]; exact tab_ext fun i hi => by
      by_cases h : i = who.toNat
      · rw [if_pos h, if_pos (Or.inl rfl), h]
      · rw [if_neg h, if_pos (by omega), if_pos (Or.inl rfl)]
  · exact tab_ext fun i _ => by rw [if_neg (by omega), if_neg (by omega)]
theorem most_stop {c : Cf} {who tr : Int} {l : List Rw} (hr : rightOk c l) (hw : 0 ≤ who ∧ who < c.n) (ht : 1 ≤ tr ∧ tr ≤ 1125899906842624) : nextA c who (mostA tr l who.toNat 2 l.length) l = (mostA tr l who.toNat 2 l.length, false) := by
  unfold nextA
  rw [if_pos ⟨most_ok hr hw ht (Or.inr rfl), hr⟩]
  exact if_neg fun h => by have : (2 : Int) = 1 := h.1; omega
theorem sum_but {f : Nat → Int} {u : Nat} : ∀ n, sumN f n = (if u < n then f u else 0) + sumN (fun i => if i = u then 0 else f i) n
  | 0 => by simp [sumN]
  | n + 1 => by
    have ih := sum_but (f := f) (u := u) n
    simp only [sumN]
    rw [ih]
    by_cases h : u < n
    · rw [if_pos h, if_pos (by omega), if_neg (show ¬ n = u by omega)]; omega
    · by_cases h2 : n = u
      · rw [if_neg h, if_pos (by omega), if_pos h2, h2]; omega
      · rw [if_neg h, if_neg (by omega), if_neg h2]; omega
theorem other_is {who tr : Int} {l : List Rw} (h0 : 0 ≤ who) : ∀ k, k ≤ l.length → otherA who (mostA tr l who.toNat 2 l.length) k = sumN (fun i => if i = who.toNat then 0 else (at_ l i).inc - (at_ l i).use) k
  | 0, _ => rfl
  | k + 1, hk => by
    have ih := other_is (tr := tr) (l := l) h0 k (by omega)
    simp only [otherA, sumN]
    rw [ih]
    congr 1
    by_cases h : (k : Int) = who
    · rw [if_pos h, if_pos (by omega)]
    · rw [if_neg h, if_neg (by omega)]
      have e1 : (mostA tr l who.toNat 2 l.length).inc[k]?.getD 0 = (at_ l k).inc := by
        show ((List.range l.length).map _)[k]?.getD 0 = _
        rw [tab_at _ _ _ (by omega), if_pos ⟨rfl, by omega, by omega⟩]
      have e2 : (mostA tr l who.toNat 2 l.length).use[k]?.getD 0 = (at_ l k).use := by
        show ((List.range l.length).map _)[k]?.getD 0 = _
        rw [tab_at _ _ _ (by omega), if_pos (Or.inl rfl)]
      rw [e1, e2]
theorem most_ends {c : Cf} {who tr : Int} {l : List Rw} (hr : rightOk c l) (hw : 0 ≤ who ∧ who < c.n) (ht : 1 ≤ tr ∧ tr ≤ 1125899906842624) : endsA c who (mostA tr l who.toNat 2 l.length) l = (valueV c l, true, true) := by
  have hl := hr.2.1
  unfold endsA
  rw [if_pos ⟨most_ok hr hw ht (Or.inr rfl), hr, rfl, most_all hw.1 (by omega)⟩]
  have hu : (mostA tr l who.toNat 2 l.length).use[who.toNat]?.getD 0 = (at_ l who.toNat).use := by
    show ((List.range l.length).map _)[who.toNat]?.getD 0 = _
    rw [tab_at _ _ _ (by omega), if_pos (Or.inl rfl)]
  have ht' : (mostA tr l who.toNat 2 l.length).told.length = l.length := tab_len _ _
  rw [hu, ht', other_is hw.1 l.length (Nat.le_refl _), if_neg (fun h => h.elim (fun h => by cases h) (fun h => h rfl)), value_is hr]
  have hs := sum_but (f := fun i => (at_ l i).inc - (at_ l i).use) (u := who.toNat) l.length
  rw [if_pos (by omega)] at hs
  rw [hs]
  congr 1
  show c.k + (at_ l who.toNat).inc - (at_ l who.toNat).use + _ = c.k + ((at_ l who.toNat).inc - (at_ l who.toNat).use + _)
  omega
end Go.Proofs.Ytgonboccklpoaaa
