/- Layer 10's mathematics: the bound, the wait. No program in it; no law is proved here. -/
import Derived.Test.YtfeamnpbfnnphaaLaw
import Derived.Test.YtfeamnpbfnnphaaKit
namespace Go.Proofs.Ytfeamnpbfnnphaa

/-- tries, held from 0 to 10 -/
def heldN (t : Int) : Nat := min t.toNat 10
/-- the bound of a wait up to p, behind that many tries; 0 if p may not be -/
def boundV (p t : Int) : Nat := if 1 ≤ p ∧ p ≤ 16 then min (2 ^ heldN t) p.toNat else 0
/-- the wait that a number drawn leaves -/
def waitV (p t : Int) (d : Nat) : Nat := if boundV p t = 0 then 0 else d % boundV p t + 1

theorem heldN_le (t : Int) : heldN t ≤ 10 := Nat.min_le_right _ _
theorem two_le {k : Nat} (h : k ≤ 10) : 2 ^ k ≤ 1024 := Nat.pow_le_pow_right (by decide) h
theorem two_pos (k : Nat) : 1 ≤ 2 ^ k := Nat.one_le_two_pow
theorem two_next (k : Nat) : 2 ^ (k + 1) = 2 * 2 ^ k := by rw [Nat.pow_succ, Nat.mul_comm]
theorem boundV_out {p : Int} (t : Int) (h : p < 1 ∨ 16 < p) : boundV p t = 0 := by unfold boundV; rw [if_neg (by omega)]
theorem boundV_in {p : Int} (t : Int) (h1 : 1 ≤ p) (h2 : p ≤ 16) : boundV p t = min (2 ^ heldN t) p.toNat := by unfold boundV; rw [if_pos ⟨h1, h2⟩]
theorem boundV_pos {p : Int} (t : Int) (h1 : 1 ≤ p) (h2 : p ≤ 16) : 1 ≤ boundV p t := by rw [boundV_in t h1 h2]; have := two_pos (heldN t); omega
theorem boundV_le (p t : Int) : boundV p t ≤ 16 := by
  by_cases h : p < 1 ∨ 16 < p
  · rw [boundV_out t h]; omega
  · rw [boundV_in t (by omega) (by omega)]; omega
theorem boundV_top {p : Int} (t : Int) (h1 : 1 ≤ p) (h2 : p ≤ 16) : (boundV p t : Int) ≤ p := by rw [boundV_in t h1 h2]; omega
theorem boundV_mono {p : Int} {s t : Int} (h : s ≤ t) : boundV p s ≤ boundV p t := by
  by_cases hp : p < 1 ∨ 16 < p
  · rw [boundV_out s hp, boundV_out t hp]; exact Nat.le_refl _
  · rw [boundV_in s (by omega) (by omega), boundV_in t (by omega) (by omega)]
    have h1 : heldN s ≤ heldN t := by unfold heldN; omega
    have := Nat.pow_le_pow_right (n := 2) (by decide) h1
    omega
theorem waitV_out {p : Int} (t : Int) (d : Nat) (h : p < 1 ∨ 16 < p) : waitV p t d = 0 := by unfold waitV; rw [boundV_out t h, if_pos rfl]
theorem waitV_in {p : Int} (t : Int) (d : Nat) (h1 : 1 ≤ p) (h2 : p ≤ 16) : waitV p t d = d % boundV p t + 1 := by
  unfold waitV; rw [if_neg (by have := boundV_pos t h1 h2; omega)]
theorem waitV_le (p t : Int) (d : Nat) : waitV p t d ≤ boundV p t := by
  unfold waitV
  by_cases h : boundV p t = 0
  · rw [if_pos h]; omega
  · rw [if_neg h]; have := Nat.mod_lt d (Nat.pos_of_ne_zero h); omega
end Go.Proofs.Ytfeamnpbfnnphaa
