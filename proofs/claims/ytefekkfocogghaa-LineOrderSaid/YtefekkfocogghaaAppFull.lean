/- append to a slice that is full (its capacity is its length), nil or not, came in or not. No function of the program in it. No law is proved here. -/
import Derived.Test.YtefekkfocogghaaAppRun
import Derived.ArgAppend
namespace Go.Proofs.Ytefekkfocogghaa
open Go.ChangeShapes Go.WideShapes Go.ChangeAt Go.RowKit

/-- where a row of the call's own lies -/
theorem elems_of_own' {w : World} {base : Nat} {e : TypeId} {sz n : Nat} {v : Value} {f : Nat → Nat → Value} (h : w.ownsRow base e sz v n (flatCells sz n f)) (hb : n ≤ 9223372036854775807) :
    ∃ a c, v = .slice a n c ∧ n ≤ c ∧ Elems w (.slice a n c) sz n f ∧ ∀ ad, a = some ad → base ≤ ad.block := by
  obtain ⟨a, c, rfl, h1, h2⟩ := elems_of_own h hb
  refine ⟨a, c, rfl, h1, h2, fun ad had => ?_⟩
  subst had
  rcases h.2 with ⟨h3, _⟩ | ⟨g, cap, cur, h3, hg, _⟩
  · cases h3
  · simp only [Value.slice.injEq, Option.some.injEq] at h3
    rw [h3.1]; exact hg
/-- what lies in another block stays -/
theorem Elems.other {w : World} {A : Option Addr} {c sz n : Nat} {f : Nat → Nat → Value} (h : Elems w (.slice A n c) sz n f) {p : Addr} (hp : ∀ ad, A = some ad → ad.block ≠ p.block) (u : Value) : Elems (w.setCell p u) (.slice A n c) sz n f := by
  refine ⟨h.1, ?_⟩
  obtain ⟨_, h2 | ⟨b, off, cap, hv, hn, hcell⟩⟩ := h
  · exact Or.inl h2
  · refine Or.inr ⟨b, off, cap, hv, hn, fun i j hi hj => ?_⟩
    simp only [Value.slice.injEq] at hv
    have hb : b ≠ p.block := hp _ hv.1
    rw [← hcell i j hi hj]
    unfold World.cell?
    rw [Below.heap_setCell w p u b hb]
section
variable {P : Program}
theorem run_append_full {w : World} (t ty : TypeId) (e : TypeId) (i : TypeInfo) (z : Value) (sz bytes : Nat) (ht : P.underlying t = some (.slice e)) (hi : P.info? e = some i) (hz : i.zero = some z)
    (hsize : i.size = sz) (hby : i.bytes = bytes) (hzs : z.cells.size = sz) (hsz : 0 < sz)
    (A : Option Addr) (n : Nat) (f : Nat → Nat → Value) (hA : Elems w (.slice A n n) sz n f) (B : Option Addr) (m c : Nat) (g : Nat → Nat → Value) (hB : Elems w (.slice B m c) sz m g)
    (h1 : ∀ i j, i < m → j < sz → (g i j).oneCell' = true) (h63 : n + m ≤ maxLen) (h47 : (n + m) * bytes ≤ 140737488355328) :
    ∃ A' C w', (Builtin.append_ #[t, t] ty #[.slice A n n, .slice B m c]).run P w = .ok (.slice A' (n + m) C) w' ∧ n + m ≤ C ∧ Elems w' (.slice A' (n + m) C) sz (n + m) (fun i j => if i < n then f i j else g (i - n) j) ∧ Below w.heap.size w w' ∧ (0 < m → ∀ ad, A' = some ad → w.heap.size ≤ ad.block) := by
  have hmax : n + m ≤ 9223372036854775807 := by simp only [maxLen] at h63; omega
  by_cases hm : m = 0
  · subst hm
    refine ⟨A, n, w, ?_, Nat.le_refl _, hA.congr (fun i j hi _ => by rw [if_pos (show i < n from hi)]), Below.refl _ _, fun h => absurd h (Nat.lt_irrefl _)⟩
    subst hsize
    have hB0 : Elems w (.slice B 0 c) i.size 0 g := hB
    cases A <;> cases B <;> simp [Builtin.append_, run_underlying ht, sizeOf, typeInfo, hi, Builtin.lenOf, Builtin.firstCells, loadCells, loadCellsFrom, storeCells]
  · have hnews : ∃ ad, B = some ad ∧ ∀ j u, (flatCells sz m g)[j]? = some u → w.cell? (ad.add j) = some u := by
      obtain ⟨b, off, rfl, _⟩ := hB.at (i := 0) (by omega)
      refine ⟨_, rfl, fun k u hu => ?_⟩
      have hk : k < m * sz := by
        have := (List.getElem?_eq_some_iff.1 hu).1
        rwa [flat_length] at this
      obtain ⟨i', j', hi', hj', rfl⟩ := flat_split m hk
      rw [flat_at sz m g i' j' hi' hj'] at hu
      obtain ⟨b, off, hab, hc⟩ := hB.at hi'
      injection hab with hab
      rw [hab, add_plain, hc j' hj']
      exact hu
    obtain ⟨ad, rfl, hn⟩ := hnews
    have h1' : ∀ u ∈ flatCells sz m g, u.oneCell' = true := fun u hu => by obtain ⟨i', j', hi', hj', rfl⟩ := flat_mem hu; exact h1 i' j' hi' hj'
    cases A with
    | some b =>
      have holds : ∀ j u, (flatCells sz n f)[j]? = some u → w.cell? (b.add j) = some u := by
        intro k u hu
        have hk : k < n * sz := by
          have := (List.getElem?_eq_some_iff.1 hu).1
          rwa [flat_length] at this
        obtain ⟨i', j', hi', hj', rfl⟩ := flat_split n hk
        rw [flat_at sz n f i' j' hi' hj'] at hu
        obtain ⟨b', off, hab, hc⟩ := hA.at hi'
        injection hab with hab
        rw [hab, add_plain, hc j' hj']
        exact hu
      obtain ⟨v', w', hr, ho, hgr⟩ := run_append_arg_grows (P := P) w t ty e i z sz bytes ht hi hz hsize hby hzs hsz b n n (flatCells sz n f) (flat_length _ _ _) holds ad m c (flatCells sz m g) (flat_length _ _ _) hn (by omega) h63 h47
      rw [flat_append] at ho
      obtain ⟨A', C, rfl, hC, hE, hat⟩ := elems_of_own' ho hmax
      exact ⟨A', C, w', hr, hC, hE, (Below.refl _ _).grown hgr (Nat.le_refl _) (fun k hk => by cases hk), fun _ => hat⟩
    | none =>
      have hn0 : n = 0 := by
        obtain ⟨_, ⟨a', c', hv, h0, hm⟩ | ⟨b, off, cap, hv, _⟩⟩ := hA
        · exact hm
        · simp at hv
      subst hn0
      obtain ⟨v', w', hr, ho, hgr, _⟩ := run_append_own (P := P) w w.heap.size t ty e i z sz bytes ht hi hz hsize hby hzs hsz (.slice none 0 0) 0 [] (World.ownsRow_nil w _ e sz) ad m c (flatCells sz m g) (flat_length _ _ _) hn h1' h63 h47 (Nat.le_refl _)
      have e0 : ([] : List Value) = flatCells sz 0 f := by simp [flatCells]
      rw [e0, flat_append] at ho
      obtain ⟨A', C, rfl, hC, hE, hat⟩ := elems_of_own' ho hmax
      exact ⟨A', C, w', hr, hC, hE, (Below.refl _ _).grown hgr (Nat.le_refl _) (fun k hk => by cases hk), fun _ => hat⟩
end
end Go.Proofs.Ytefekkfocogghaa
