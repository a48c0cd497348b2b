/- Short names of three theorems on lists. No law is proved here. -/
import Derived.OrdersHeld
import Derived.KernelRfl
import Derived.Below
namespace Go.Proofs.YtecjnkokdnmhlaaGreat
open Go in
theorem qH {p : Prop} (h : p) : RowKit.Hid p := h
open Go in
theorem qT {P : Program} {ops : Array Oper} {Q : Exit → Act → World → Prop} {md : Region.Mode} {S : World → Prop} {fuel : Nat} {listed : Array Bool} {a : Act} {w : World} (i s : Nat) {o1 o2 o3 o4 o5} (v : Value)
    (hi : ops[i]? = some ⟨some s, o1, o2, o3, o4, o5⟩) (hv : ∀ w, S w → (execOp a.eval ⟨some s, o1, o2, o3, o4, o5⟩).run P w = .ok (.value v) w)
    (h : wpAnyH P md ops Q S fuel (listed.setIfInBounds i true) (a.put (some s) v) w) (hw : Region.wanted ⟨some s, o1, o2, o3, o4, o5⟩ (yielded ops a.tmps) = true := by rfl) (hS : S w := by assumption)
    (hs : Region.noSelect ops = true := by kernel_rfl) (hf : Region.free md ops listed i = true := by kernel_rfl) (hr : (Region.ready md ops listed).contains i = true := by kernel_rfl)
    (hQ : ∀ c a w, Q (.panic c) (a.put (some s) v) w → Q (.panic c) a w := by exact fun _ _ _ h => h) : wpAnyH P md ops Q S (fuel + 1) listed a w :=
  wpAnyH_take hi hs hf hr hQ (Or.inl ⟨hw, hv⟩) hS h
open Go in
theorem qS {P : Program} {ops : Array Oper} {Q : Exit → Act → World → Prop} {md : Region.Mode} {S : World → Prop} {fuel : Nat} {listed : Array Bool} {a : Act} {w : World} (i s : Nat) {o1 o2 o3 o4 o5}
    (hi : ops[i]? = some ⟨some s, o1, o2, o3, o4, o5⟩)
    (h : wpAnyH P md ops Q S fuel (listed.setIfInBounds i true) (a.put (some s) undef) w) (hw : Region.wanted ⟨some s, o1, o2, o3, o4, o5⟩ (yielded ops a.tmps) = false := by rfl) (hS : S w := by assumption)
    (hs : Region.noSelect ops = true := by kernel_rfl) (hf : Region.free md ops listed i = true := by kernel_rfl) (hr : (Region.ready md ops listed).contains i = true := by kernel_rfl)
    (hQ : ∀ c a w, Q (.panic c) (a.put (some s) undef) w → Q (.panic c) a w := by exact fun _ _ _ h => h) : wpAnyH P md ops Q S (fuel + 1) listed a w :=
  wpAnyH_take hi hs hf hr hQ (Or.inr ⟨hw, rfl⟩) hS h
universe u
theorem qA {α : Type u} (l : List α) (i : Nat) (a : α) : l.toArray.setIfInBounds i a = (l.set i a).toArray := List.setIfInBounds_toArray l i a
theorem qB {α : Type u} {a b : α} {l : List α} : (a :: l).set 0 b = b :: l := rfl
theorem qC {α : Type u} {a b : α} {l : List α} {n : Nat} : (a :: l).set (n + 1) b = a :: l.set n b := rfl
end Go.Proofs.YtecjnkokdnmhlaaGreat
