/- Rows of the call's own, of unlike types, lie apart. No function of the program in it. No law is proved here. -/
import Derived.Test.YtkkhecdmjcffjaaAppend
namespace Go.Proofs.Ytkkhecdmjcffjaa
open Go.RowKit

/-- two rows of the call's own, of unlike types, lie in unlike blocks -/
theorem own_apart {w : World} {base b2 : Nat} {e e2 : TypeId} {s s2 n n2 : Nat} {v v2 : Value} {xs xs2 : List Value} (h : w.ownsRow base e s v n xs) (h2 : w.ownsRow b2 e2 s2 v2 n2 xs2) (he : e ≠ e2) {b : Nat} (hv : v.ownBlock = some b) : v2.ownBlock ≠ some b := by
  intro hv2
  rcases h.2 with ⟨rfl, _⟩ | ⟨g, cap, cur, rfl, _, hg, _⟩
  · simp [Value.ownBlock] at hv
  · rcases h2.2 with ⟨rfl, _⟩ | ⟨g', cap', cur', rfl, _, hg', _⟩
    · simp [Value.ownBlock] at hv2
    · obtain rfl : g = b := by simpa [Value.ownBlock] using hv
      obtain rfl : g' = g := by simpa [Value.ownBlock] using hv2
      rw [hg] at hg'
      simp at hg'
      exact he hg'.2

theorem own_kept_apart {w w' : World} {base b2 : Nat} {e e2 : TypeId} {s s2 n n2 : Nat} {v v2 : Value} {xs xs2 : List Value} (h : w.ownsRow base e s v n xs) (h2 : w.ownsRow b2 e2 s2 v2 n2 xs2) (he : e2 ≠ e) (hG : w.grownBy w' v2.ownBlock) : w'.ownsRow base e s v n xs := by
  cases hv2 : v2.ownBlock with
  | none => rw [hv2] at hG; exact h.kept hG (by cases v.ownBlock <;> simp)
  | some b =>
    have := own_apart h2 h he hv2
    rw [hv2] at hG
    exact h.kept hG (.inr this)
end Go.Proofs.Ytkkhecdmjcffjaa
