/- Short names of three theorems on lists. No law is proved here. -/
namespace Go.Proofs.YtnkgakhnlbifdaaGreat
universe u
theorem qA {α : Type u} (l : List α) (i : Nat) (a : α) : l.toArray.setIfInBounds i a = (l.set i a).toArray := List.setIfInBounds_toArray l i a
theorem qB {α : Type u} {a b : α} {l : List α} : (a :: l).set 0 b = b :: l := rfl
theorem qC {α : Type u} {a b : α} {l : List α} {n : Nat} : (a :: l).set (n + 1) b = a :: l.set n b := rfl
end Go.Proofs.YtnkgakhnlbifdaaGreat
