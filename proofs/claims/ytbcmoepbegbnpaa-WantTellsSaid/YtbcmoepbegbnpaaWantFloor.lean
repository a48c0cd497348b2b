/- math.Floor of whole numbers and halves, a complex number by two: what they are, bit by bit. No law is proved here. -/
import Derived.Test.YtbcmoepbegbnpaaWhole
import Derived.Laws.Externs
import GoSem.Extern.MathFloor
namespace Go.Proofs.Ytbcmoepbegbnpaa

section
open Ieee

theorem Rep.down_half {d : Datum} {n : Nat} (hd : Rep d n (-1)) : Rep (d.integral .down) (n / 2) 0 := by
  obtain ⟨a, i, rfl, hi⟩ := hd
  unfold Datum.integral
  refine ⟨0, 0, ?_, fun _ => rfl⟩
  simp only [Nat.shiftLeft_zero]
  congr 1
  rcases Nat.eq_zero_or_pos n with h0 | h0
  · subst h0
    rw [Nat.zero_shiftLeft, Nat.zero_shiftLeft]
    unfold Toward.cut
    simp
  · have h1 := hi h0
    rw [show i.toNat = 0 by omega, show (-i).toNat = a + 1 by omega, Nat.shiftLeft_zero]
    have hl := log2_shift h0 a
    unfold Toward.cut
    simp only [Nat.min_eq_left (show a + 1 ≤ (n <<< a).log2 + 2 by omega), Bool.false_and, Bool.toNat_false, Nat.add_zero]
    rw [Nat.shiftLeft_eq, Nat.shiftLeft_eq, Nat.one_mul, Nat.pow_succ, ← Nat.div_div_eq_div_mul, Nat.mul_div_cancel _ (Nat.two_pow_pos a)]
theorem down_F {n : Nat} (h : n < 9007199254740992) : ∃ m i, FloatKind.f64.decode (F n (-1)) = .number false m i ∧ FloatKind.f64.encode (Datum.integral .down (.number false m i)) = F (n / 2) 0 := by
  have hr := Rep.read (n := n) (p := -1) h (by decide) (by decide)
  obtain ⟨a, i, he, _⟩ := id hr
  refine ⟨n <<< a, i, he, ?_⟩
  have hd := hr.down_half
  rw [he] at hd
  exact hd.write (by omega) (by decide) (by decide)
theorem run_floor {P : Program} (w : World) {n : Nat} (h : n < 9007199254740992) :
    (Extern.MathFloor.toIntegral "math.archFloor" .down #[.float .f64 (F n (-1))]).run P w = .ok (.float .f64 (F (n / 2) 0)) w := by
  obtain ⟨m, i, h1, h2⟩ := down_F h
  show Sem.run P (Extern.MathFloor.toIntegral.match_1 (fun _ => Sem Value) (FloatKind.f64.decode (F n (-1))) _ _) w = _
  rw [h1, ← h2]
  rfl
theorem not_nan_F {n : Nat} (h : n < 9007199254740992) : Op.Complex.isNaN (F n (-1)) = false := by
  obtain ⟨m, i, h1, _⟩ := down_F h
  unfold Op.Complex.isNaN
  rw [h1]
  rfl
theorem two_word : F 2 0 = 4611686018427387904 := by decide +kernel

/-- A COMPLEX NUMBER BY TWO -/
theorem run_complex_half {P : Program} (w : World) (t : TypeId) {x y : Nat} (hx : x < 9007199254740992) (hy : y < 9007199254740992) :
    (binOp .quo t (.complex .f64 (F x 0) (F y 0)) (.complex .f64 4611686018427387904 0)).run P w = .ok (.complex .f64 (F x (-1)) (F y (-1))) w := by
  have o1 : FloatKind.f64.format.order (Op.Complex.abs 4611686018427387904) (Op.Complex.abs 0) = some .gt := by decide +kernel
  have o2 : FloatKind.f64.format.order 4611686018427387904 0 = some .gt := by decide +kernel
  have o3 : FloatKind.f64.format.order 0 0 = some .eq := by decide +kernel
  have c1 : (Op.Complex.cmp .geq .f64 (Op.Complex.abs 4611686018427387904) (Op.Complex.abs 0)).run P w = .ok true w := by simp [Op.Complex.cmp, Op.floatCmp, o1, asBool]
  have c2 : (Op.Complex.cmp .eql .f64 4611686018427387904 0).run P w = .ok false w := by simp [Op.Complex.cmp, Op.floatCmp, o2, asBool]
  have c3 : (Op.Complex.cmp .eql .f64 0 0).run P w = .ok true w := by simp [Op.Complex.cmp, Op.floatCmp, o3, asBool]
  have q1 : floatBits .quo .f64 0 4611686018427387904 = some 0 := by decide +kernel
  have q2 : floatBits .mul .f64 0 0 = some 0 := by decide +kernel
  have q3 : floatBits .add .f64 4611686018427387904 0 = some 4611686018427387904 := by decide +kernel
  have m1 : ∀ {n : Nat}, n < 9007199254740992 → floatBits .mul .f64 (F n 0) 0 = some 0 := fun {n} hn => by
    have := mul_F (n := n) (m := 0) (p := 0) (q := 0) hn (by decide) (by rw [Nat.mul_zero]; decide) (by decide) (by decide) (by decide) (by decide)
    rwa [Nat.mul_zero, F_zero, F_zero] at this
  have a1 : floatBits .add .f64 (F x 0) 0 = some (F x 0) := by
    have := add_F (n := x) (m := 0) (p := 0) (by omega) (by decide) (by decide)
    rwa [F_zero, Nat.add_zero] at this
  have s1 := sub_zero_F (n := y) (p := 0) hy (by decide) (by decide)
  have h1 := half_F hx
  have h2 := half_F hy
  rw [two_word] at h1 h2
  have n1 := not_nan_F hx
  have mx := m1 hx
  have my := m1 hy
  generalize F x (-1) = X at *
  generalize F y (-1) = Y at *
  generalize F x 0 = x0 at *
  generalize F y 0 = y0 at *
  simp [binOp, Op.complexOp, Op.Complex.conv, Op.Complex.quotient, Op.Complex.quo, Op.Complex.mul, Op.Complex.add, Op.Complex.sub, c1, c2, c3, run_carith w q1, run_carith w q2, run_carith w q3, run_carith w mx, run_carith w my, run_carith w a1, run_carith w s1, run_carith w h1, run_carith w h2, n1]
end
end Go.Proofs.Ytbcmoepbegbnpaa
