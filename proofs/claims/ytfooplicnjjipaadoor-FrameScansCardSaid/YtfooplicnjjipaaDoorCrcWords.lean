/- Small laws on the bits of a sum. No function of the program in it. No law is proved here. -/
import Derived.Test.YtfooplicnjjipaaDoorLaw
import Derived.Test.YtfooplicnjjipaaDoorCrcMath
import Derived.WalkKit
import Derived.WalkSpells
import Derived.WalkLawsBesides
import Derived.Laws.BitsAllLaws
import Derived.Lib.Hide
namespace Go.Proofs.YtfooplicnjjipaaDoor
open Go.RowKit

theorem bits_not (n : Nat) (h : n < 4294967296) : bits .xor .u32 IntKind.u32.max (n : Int) = ((4294967295 - n : Nat) : Int) := by
  have e : (IntKind.u32.max : Int) = ((4294967295 : Nat) : Int) := rfl
  rw [e, u32_xor_nat _ _ (by decide) h]
  congr 1
  apply Nat.eq_of_testBit_eq
  intro i
  rw [Nat.testBit_xor, show (4294967295 : Nat) = 2 ^ 32 - 1 by rfl, show 2 ^ 32 - 1 - n = 2 ^ 32 - (n + 1) by omega, Nat.testBit_two_pow_sub_one, Nat.testBit_two_pow_sub_succ (by omega)]
  by_cases hi : i < 32
  · simp [hi]
  · have : n.testBit i = false := Nat.testBit_lt_two_pow (Nat.lt_of_lt_of_le h (Nat.pow_le_pow_right (by decide) (by omega) : 2 ^ 32 ≤ 2 ^ i))
    simp [hi, this]

theorem and15 (y : Nat) (h : y < 4294967296) : bits .and .u32 (y : Int) 15 = ((y % 16 : Nat) : Int) := by
  have e := u32_and_nat y 15 h (by decide)
  rw [nat_mask4] at e
  exact e

theorem nib_xor (y t : Nat) (h : y < 4294967296) (ht : t < 4294967296) : bits .xor .u32 ((y : Int) / 16) (t : Int) = ((y / 16 ^^^ t : Nat) : Int) := by
  rw [show (y : Int) / 16 = ((y / 16 : Nat) : Int) by omega]
  exact u32_xor_nat _ _ (by omega) ht

theorem take_snoc (l : List Int) (k : Nat) (h : k < l.length) : l.take (k + 1) = l.take k ++ [l.getD k 0] := by
  rw [List.take_succ_eq_append_getElem h]
  simp [List.getD_eq_getElem?_getD, List.getElem?_eq_getElem h]

theorem ret_int {k : IntKind} {a b : Int} (h : a = b) : Ending.returned (.int k a) = .returned (.int k b) := by rw [h]

theorem poly_xor (y : Nat) (h : y < 4294967296) : bits .xor .u32 ((y : Int) / 2) 3988292384 = ((y / 2 ^^^ CrcMath.poly : Nat) : Int) := by
  rw [show (y : Int) / 2 = ((y / 2 : Nat) : Int) by omega]
  exact u32_xor_nat _ _ (by omega) (by decide)
theorem bit_xor (c j : Nat) (hc : c < 256) (hj : j < 8) : bits .xor .u8 (c : Int) (2 ^ j % 256) = ((c ^^^ 2 ^ j : Nat) : Int) := by
  have hp : 2 ^ j < 256 := Nat.pow_lt_pow_right (by decide : 1 < 2) hj
  have e : ((2 : Int) ^ j % 256) = ((2 ^ j : Nat) : Int) := by
    have h8 : j = 0 ∨ j = 1 ∨ j = 2 ∨ j = 3 ∨ j = 4 ∨ j = 5 ∨ j = 6 ∨ j = 7 := by omega
    rcases h8 with rfl | rfl | rfl | rfl | rfl | rfl | rfl | rfl <;> decide
  rw [e, u8_xor_nat c (2 ^ j) hc hp]
end Go.Proofs.YtfooplicnjjipaaDoor
