/- Books whose rows are of the call's own, while each list Out lies wherever it lies, aside of them. No function of the program in it. No law is proved here. -/
import Derived.Test.YteepjeaeljkkeaaRightsWords
namespace Go.Proofs.Yteepjeaeljkkeaa
open Go.RowKit

/-- numbers at a place, in a block -/
def NumsAt (w : World) (b off : Nat) (l : List Int) : Prop := b < w.heap.size ∧ l.length ≤ 9223372036854775807 ∧ ∀ i, i < l.length → w.cell? ⟨b, off + i, none⟩ = some (.int .i64 (l[i]?.getD 0))
theorem NumsAt.nums {w : World} {b off : Nat} {l : List Int} (h : NumsAt w b off l) {C : Nat} (hC : l.length ≤ C) : Nums w (.slice (some ⟨b, off, none⟩) l.length C) l := by
  refine ⟨h.2.1, Or.inr ⟨b, off, C, rfl, hC, fun i j hi hj => ?_⟩⟩
  obtain rfl : j = 0 := by omega
  rw [Nat.mul_one, Nat.add_zero]
  exact h.2.2 i hi
theorem NumsAt.block {w w' : World} {b off : Nat} {l : List Int} (h : NumsAt w b off l) (hs : w.heap.size ≤ w'.heap.size) (hb : w'.heap[b]? = w.heap[b]?) : NumsAt w' b off l :=
  ⟨by have := h.1; omega, h.2.1, fun i hi => by rw [World.cell?_of_block (a := ⟨b, off + i, none⟩) hb]; exact h.2.2 i hi⟩
theorem NumsAt.later {w w' : World} {b off : Nat} {l : List Int} (h : NumsAt w b off l) (hb : Below w.heap.size w w') : NumsAt w' b off l := h.block hb.size (hb.block b h.1)

def HeldG (w : World) (base : Nat) (v : Value) (l : List Rw) (g : Nat → Value) : Prop :=
  w.ownsRow base 39 3 v l.length (flatCells 3 l.length (rowCell l g)) ∧
    ∀ k, k < l.length → ∃ b off C, g k = .slice (some ⟨b, off, none⟩) (at_ l k).out.length C ∧ (at_ l k).out.length ≤ C ∧ v.ownBlock ≠ some b ∧ NumsAt w b off (at_ l k).out
def HeldBooks (w : World) (base : Nat) (v : Value) (l : List Rw) : Prop := ∃ g, HeldG w base v l g
theorem HeldG.later {w w' : World} {base : Nat} {v : Value} {l : List Rw} {g : Nat → Value} (h : HeldG w base v l g) (hb : Below w.heap.size w w') : HeldG w' base v l g :=
  ⟨own_later h.1 hb, fun k hk => by obtain ⟨b, off, C, e, hC, hne, hN⟩ := h.2 k hk; exact ⟨b, off, C, e, hC, hne, hN.later hb⟩⟩
theorem HeldBooks.later {w w' : World} {base : Nat} {v : Value} {l : List Rw} (h : HeldBooks w base v l) (hb : Below w.heap.size w w') : HeldBooks w' base v l := ⟨_, h.choose_spec.later hb⟩
theorem heldBooks_nil (w : World) (base : Nat) : HeldBooks w base (.slice none 0 0) [] := ⟨fun _ => .bool false, World.ownsRow_nil _ _ _ _, fun k hk => absurd hk (by simp)⟩
theorem HeldBooks.books {w : World} {base : Nat} {v : Value} {l : List Rw} (h : HeldBooks w base v l) (hb : l.length ≤ 9223372036854775807) : ∃ A C, v = .slice A l.length C ∧ Books w (.slice A l.length C) l := by
  obtain ⟨g, h1, h2⟩ := h
  obtain ⟨A, C, rfl, _, hE⟩ := elems_of_own h1 hb
  refine ⟨A, C, rfl, g, hE, fun k hk => ?_⟩
  obtain ⟨b, off, C', e, hC, _, hN⟩ := h2 k hk
  exact ⟨_, _, e, by rw [e]; exact hN.nums hC⟩

/-- ONE ROW MORE, by an append -/
theorem held_push {w0 w1 w2 : World} {base : Nat} {v v' u : Value} {l : List Rw} {r : Rw} {g : Nat → Value} (h : HeldG w0 base v l g) (hb : Below w0.heap.size w0 w1)
    (hu : ∃ b off C, u = .slice (some ⟨b, off, none⟩) r.out.length C ∧ r.out.length ≤ C ∧ w0.heap.size ≤ b ∧ NumsAt w1 b off r.out)
    (hv : w2.ownsRow base 39 3 v' (l.length + 1) (flatCells 3 (l.length + 1) (fun i j => if i < l.length then rowCell l g i j else if j = 0 then .int .i64 r.inc else if j = 1 then .int .i64 r.use else u)))
    (hG : Grew w1 w2 v v') : HeldBooks w2 base v' (l ++ [r]) := by
  obtain ⟨h1, h2⟩ := h
  have hne2 : ∀ b, b < w1.heap.size → v.ownBlock ≠ some b → v'.ownBlock ≠ some b := fun b hb' hne e => by
    rcases hG.2 with h3 | h3
    · exact hne (h3.symm.trans e)
    · rw [h3] at e
      injection e with e
      omega
  refine ⟨fun i => if i < l.length then g i else u, ?_, fun k hk => ?_⟩
  · rw [List.length_append, List.length_singleton]
    have e : flatCells 3 (l.length + 1) (rowCell (l ++ [r]) (fun i => if i < l.length then g i else u)) = flatCells 3 (l.length + 1) (fun i j => if i < l.length then rowCell l g i j else if j = 0 then .int .i64 r.inc else if j = 1 then .int .i64 r.use else u) := by
      unfold flatCells
      rw [List.flatMap_def, List.flatMap_def]
      congr 1
      apply List.map_congr_left
      intro i hi
      apply List.map_congr_left
      intro j _
      by_cases hil : i < l.length
      · unfold rowCell
        rw [at_append_lt hil]
        simp only [if_pos hil]
      · have : i = l.length := by have := List.mem_range.1 hi; omega
        subst this
        unfold rowCell
        rw [at_append_eq]
        simp only [Nat.lt_irrefl, if_false]
    rw [e]; exact hv
  · rw [List.length_append, List.length_singleton] at hk
    by_cases hkl : k < l.length
    · obtain ⟨b, off, C, e, hC, hne, hN⟩ := h2 k hkl
      rw [at_append_lt hkl]
      simp only [if_pos hkl]
      have hlt : b < w1.heap.size := Nat.lt_of_lt_of_le hN.1 hb.size
      exact ⟨b, off, C, e, hC, hne2 b hlt hne, (hN.later hb).block hG.1.size (hG.1.block b hlt (fun e => hne e.symm))⟩
    · have : k = l.length := by omega
      subst this
      rw [at_append_eq]
      simp only [Nat.lt_irrefl, if_false]
      obtain ⟨b, off, C, e, hC, hge, hN⟩ := hu
      have hne : v.ownBlock ≠ some b := fun e => by have := (h1.lt b e).2; omega
      exact ⟨b, off, C, e, hC, hne2 b hN.1 hne, hN.block hG.1.size (hG.1.block b hN.1 (fun e => hne e.symm))⟩
end Go.Proofs.Yteepjeaeljkkeaa
