/- Merged texts: OwnApart, OwnBooks. No law is proved here. -/
import Derived.Test.YtbpmonbehibgdaaAppend
import Derived.Test.YtbpmonbehibgdaaBooks
import Derived.Test.YtbpmonbehibgdaaRowWorld
/- Rows of the call's own, of unlike types, lie apart. No function of the program in it. No law is proved here. -/
namespace Go.Proofs.Ytbpmonbehibgdaa
open Go.RowKit

/-- two rows of the call's own, of unlike types, lie in unlike blocks -/
theorem own_apart {w : World} {base b2 : Nat} {e e2 : TypeId} {s s2 n n2 : Nat} {v v2 : Value} {xs xs2 : List Value} (h : w.ownsRow base e s v n xs) (h2 : w.ownsRow b2 e2 s2 v2 n2 xs2) (he : e ≠ e2) {b : Nat} (hv : v.ownBlock = some b) : v2.ownBlock ≠ some b := by
  intro hv2
  rcases h.2 with ⟨rfl, _⟩ | ⟨g, cap, cur, rfl, _, hg, _⟩
  · simp [Value.ownBlock] at hv
  · rcases h2.2 with ⟨rfl, _⟩ | ⟨g', cap', cur', rfl, _, hg', _⟩
    · simp [Value.ownBlock] at hv2
    · obtain rfl : g = b := by simpa [Value.ownBlock] using hv
      obtain rfl : g' = g := by simpa [Value.ownBlock] using hv2
      rw [hg] at hg'
      simp at hg'
      exact he hg'.2

theorem own_kept_apart {w w' : World} {base b2 : Nat} {e e2 : TypeId} {s s2 n n2 : Nat} {v v2 : Value} {xs xs2 : List Value} (h : w.ownsRow base e s v n xs) (h2 : w.ownsRow b2 e2 s2 v2 n2 xs2) (he : e2 ≠ e) (hG : w.grownBy w' v2.ownBlock) : w'.ownsRow base e s v n xs := by
  cases hv2 : v2.ownBlock with
  | none => rw [hv2] at hG; exact h.kept hG (by cases v.ownBlock <;> simp)
  | some b =>
    have := own_apart h2 h he hv2
    rw [hv2] at hG
    exact h.kept hG (.inr this)
end Go.Proofs.Ytbpmonbehibgdaa

/- Books of the call's own: the rows in one block, each list Out in one of its own, no two in one. No function of the program in it. No law is proved here. -/
namespace Go.Proofs.Ytbpmonbehibgdaa
open Go.RowKit

theorem info_row : (Try.prog.info? 71).map (fun i => (i.zero, i.size, i.bytes)) = some (some (.agg #[.int .i64 0, .int .i64 0, .slice none 0 0]), 3, 40) := by kernel_rfl

/-- the rows, their lists by g -/
def OwnG (w : World) (base : Nat) (v : Value) (l : List Rw) (g : Nat → Value) : Prop :=
  w.ownsRow base 71 3 v l.length (flatCells 3 l.length (rowCell l g)) ∧
    (∀ k, k < l.length → (∃ A C, g k = .slice A (at_ l k).out.length C) ∧ w.ownsRow base 2 1 (g k) (at_ l k).out.length ((at_ l k).out.map (Value.int .i64))) ∧
    ∀ i j b, i < l.length → j < l.length → (g i).ownBlock = some b → (g j).ownBlock = some b → i = j
def OwnBooks (w : World) (base : Nat) (v : Value) (l : List Rw) : Prop := ∃ g : Nat → Value, OwnG w base v l g

theorem OwnBooks.books {w : World} {base : Nat} {v : Value} {l : List Rw} (h : OwnBooks w base v l) (hb : l.length ≤ 9223372036854775807) (hl : ∀ k, k < l.length → (at_ l k).out.length ≤ 9223372036854775807) :
    ∃ A C, v = .slice A l.length C ∧ Books w (.slice A l.length C) l := by
  obtain ⟨g, h1, h2, _⟩ := h
  obtain ⟨A, C, rfl, _, hE⟩ := elems_of_own h1 hb
  refine ⟨A, C, rfl, g, hE, fun k hk => ?_⟩
  obtain ⟨⟨A', C', e⟩, h4⟩ := h2 k hk
  obtain ⟨A2, C2, e2, hN⟩ := nums_of_own h4 rfl (hl k hk)
  exact ⟨A', C', e, by rw [e2]; exact hN⟩
theorem OwnG.later {w w' : World} {base : Nat} {v : Value} {l : List Rw} {g : Nat → Value} (h : OwnG w base v l g) (hb : Below w.heap.size w w') : OwnG w' base v l g := by
  obtain ⟨h1, h2, h3⟩ := h
  exact ⟨own_later h1 hb, fun k hk => ⟨(h2 k hk).1, own_later (h2 k hk).2 hb⟩, h3⟩
theorem OwnBooks.later {w w' : World} {base : Nat} {v : Value} {l : List Rw} (h : OwnBooks w base v l) (hb : Below w.heap.size w w') : OwnBooks w' base v l := ⟨h.choose, h.choose_spec.later hb⟩
theorem ownG_nil (w : World) (base : Nat) (g : Nat → Value) : OwnG w base (.slice none 0 0) [] g :=
  ⟨World.ownsRow_nil _ _ _ _, fun k hk => absurd hk (by simp), fun i j b hi => absurd hi (by simp)⟩
theorem ownBooks_nil (w : World) (base : Nat) : OwnBooks w base (.slice none 0 0) [] := ⟨fun _ => .bool false, ownG_nil _ _ _⟩

theorem at_append_lt {l : List Rw} {r : Rw} {k : Nat} (h : k < l.length) : at_ (l ++ [r]) k = at_ l k := by simp [at_, List.getElem?_append_left h]
theorem at_append_eq (l : List Rw) (r : Rw) : at_ (l ++ [r]) l.length = r := by simp [at_]

/-- ONE ROW MORE: behind 'out = append(out, Row{..})', the row's list being of the call's own, and made since. -/
theorem ownG_push {w0 w1 w2 : World} {base : Nat} {v v' u : Value} {l : List Rw} {r : Rw} {g : Nat → Value} (h : OwnG w0 base v l g) (hb : Below w0.heap.size w0 w1) (hw : base ≤ w0.heap.size)
    (hu : w1.ownsRow w0.heap.size 2 1 u r.out.length (r.out.map (Value.int .i64))) (hus : ∃ A C, u = .slice A r.out.length C)
    (hv : w2.ownsRow base 71 3 v' (l.length + 1) (flatCells 3 (l.length + 1) (fun i j => if i < l.length then rowCell l g i j else if j = 0 then .int .i64 r.inc else if j = 1 then .int .i64 r.use else u)))
    (hG : w1.grownBy w2 v.ownBlock) : OwnG w2 base v' (l ++ [r]) (fun i => if i < l.length then g i else u) := by
  obtain ⟨h1, h2, h3⟩ := h
  have h1' := own_later h1 hb
  refine ⟨?_, fun k hk => ?_, fun i j b hi hj hbi hbj => ?_⟩
  · rw [List.length_append, List.length_singleton]
    have e : flatCells 3 (l.length + 1) (rowCell (l ++ [r]) (fun i => if i < l.length then g i else u)) = flatCells 3 (l.length + 1) (fun i j => if i < l.length then rowCell l g i j else if j = 0 then .int .i64 r.inc else if j = 1 then .int .i64 r.use else u) := by
      unfold flatCells
      rw [List.flatMap_def, List.flatMap_def]
      congr 1
      apply List.map_congr_left
      intro i hi
      apply List.map_congr_left
      intro j _
      by_cases hil : i < l.length
      · unfold rowCell
        rw [at_append_lt hil]
        simp only [if_pos hil]
      · have : i = l.length := by have := List.mem_range.1 hi; omega
        subst this
        unfold rowCell
        rw [at_append_eq]
        simp only [Nat.lt_irrefl, if_false]
    rw [e]; exact hv
  · rw [List.length_append, List.length_singleton] at hk
    by_cases hkl : k < l.length
    · rw [at_append_lt hkl]
      simp only [if_pos hkl]
      obtain ⟨e, h4⟩ := h2 k hkl
      exact ⟨e, own_kept_apart (own_later h4 hb) h1' (by decide) hG⟩
    · have : k = l.length := by omega
      subst this
      rw [at_append_eq]
      simp only [Nat.lt_irrefl, if_false]
      refine ⟨hus, ?_⟩
      have h5 := own_kept_apart hu h1' (by decide) hG
      exact ⟨h5.1, h5.2.imp id fun ⟨g', cap, cur, e, hb', hh⟩ => ⟨g', cap, cur, e, Nat.le_trans hw hb', hh⟩⟩
  · rw [List.length_append, List.length_singleton] at hi hj
    have hlt : ∀ k, k < l.length → (g k).ownBlock = some b → b < w0.heap.size := fun k hk e => ((h2 k hk).2.lt b e).2
    have hge : u.ownBlock = some b → w0.heap.size ≤ b := fun e => (hu.lt b e).1
    by_cases hil : i < l.length
    · simp only [if_pos hil] at hbi
      by_cases hjl : j < l.length
      · simp only [if_pos hjl] at hbj
        exact h3 i j b hil hjl hbi hbj
      · simp only [if_neg hjl] at hbj
        have := hlt i hil hbi
        have := hge hbj
        omega
    · simp only [if_neg hil] at hbi
      by_cases hjl : j < l.length
      · simp only [if_pos hjl] at hbj
        have := hlt j hjl hbj
        have := hge hbi
        omega
      · omega
end Go.Proofs.Ytbpmonbehibgdaa
