/- Floats that are whole numbers, or whole numbers and halves: what their sum, product and quotient are, bit by bit. No function of the program in it. No law is proved here. -/
import Derived.Laws.ComplexArith
namespace Go.Proofs.Ytbcmoepbegbnpaa

section
open Ieee

theorem log2_shift {n : Nat} (h : 0 < n) (a : Nat) : (n <<< a).log2 = n.log2 + a := by
  induction a with
  | zero => rfl
  | succ a ih =>
    have hne : n <<< a ≠ 0 := by
      rw [Nat.shiftLeft_eq]
      have := Nat.mul_pos h (Nat.two_pow_pos a)
      omega
    rw [Nat.shiftLeft_succ, Nat.log2_two_mul hne, ih, Nat.add_assoc]
theorem log2_lt {n : Nat} (h : 0 < n) (h2 : n < 9007199254740992) : n.log2 ≤ 52 := by
  have := (Nat.log2_lt (n := n) (k := 53) (by omega)).2 (by omega)
  omega
theorem cut_exact (way : Toward) (n d : Nat) (h : d ≤ (n <<< d).log2 + 2) : way.cut false (n <<< d) d = n := by
  have hd : min d ((n <<< d).log2 + 2) = d := Nat.min_eq_left h
  have hg : 1 <<< d = 2 ^ d := by rw [Nat.shiftLeft_eq, Nat.one_mul]
  have hp := Nat.two_pow_pos d
  have h1 : n <<< d / 2 ^ d = n := by rw [Nat.shiftLeft_eq, Nat.mul_div_cancel _ hp]
  have h2 : n <<< d % 2 ^ d = 0 := by rw [Nat.shiftLeft_eq, Nat.mul_mod_left]
  unfold Toward.cut
  simp only [hd, hg, h1, h2]
  cases way <;> simp <;> omega
/-- the word of n * 2 ^ p, where it is one -/
def F (n : Nat) (p : Int) : Nat := double.nearest false n p
theorem F_zero (p : Int) : F 0 p = 0 := rfl
theorem nearest_zero (p : Int) : double.nearest false 0 p = 0 := rfl
theorem nearest_scaled {n : Nat} (a : Nat) {p : Int} (h0 : 0 < n) (h : n < 9007199254740992) (h1 : -1000 ≤ p) (h2 : p ≤ 900) :
    double.nearest false (n <<< a) (p - a) = (p + n.log2 + 1022).toNat * 4503599627370496 + n * 2 ^ (52 - n.log2) := by
  have hL := log2_lt h0 h
  have hne : n <<< a ≠ 0 := by
    rw [Nat.shiftLeft_eq]
    have := Nat.mul_pos h0 (Nat.two_pow_pos a)
    omega
  have hlog := log2_shift h0 a
  have hleast : double.leastPlace = -1074 := by decide
  have hbin : double.binade = 4503599627370496 := by decide
  have hinf : double.infRung = 9218868437227405312 := by decide
  have hfr : (double.fractionBits : Int) = 52 := rfl
  have hlast : max (p - (a : Int) + ((n <<< a).log2 : Nat) - (double.fractionBits : Int)) (-1074) = p + n.log2 - 52 := by
    rw [hlog, hfr]; omega
  have hkept : Toward.even.cut false ((n <<< a) <<< (p - (a : Int) - (p + n.log2 - 52)).toNat) ((p + n.log2 - 52) - (p - (a : Int))).toNat = n * 2 ^ (52 - n.log2) := by
    by_cases hle : n.log2 + a ≤ 52
    · rw [show ((p + n.log2 - 52) - (p - (a : Int))).toNat = 0 by omega, show (p - (a : Int) - (p + n.log2 - 52)).toNat = 52 - n.log2 - a by omega]
      have hc := cut_exact .even ((n <<< a) <<< (52 - n.log2 - a)) 0 (Nat.zero_le _)
      rw [Nat.shiftLeft_zero] at hc
      rw [hc, ← Nat.shiftLeft_add, Nat.shiftLeft_eq, show a + (52 - n.log2 - a) = 52 - n.log2 by omega]
    · rw [show (p - (a : Int) - (p + n.log2 - 52)).toNat = 0 by omega, show ((p + n.log2 - 52) - (p - (a : Int))).toNat = n.log2 + a - 52 by omega, Nat.shiftLeft_zero]
      have he : n <<< a = (n <<< (52 - n.log2)) <<< (n.log2 + a - 52) := by rw [← Nat.shiftLeft_add, show 52 - n.log2 + (n.log2 + a - 52) = a by omega]
      have hl : (n.log2 + a - 52) ≤ ((n <<< (52 - n.log2)) <<< (n.log2 + a - 52)).log2 + 2 := by rw [← he, hlog]; omega
      rw [he, cut_exact .even _ _ hl, Nat.shiftLeft_eq]
  have hb1 : n * 2 ^ (52 - n.log2) < 9007199254740992 := by
    have h3 : n < 2 ^ (n.log2 + 1) := Nat.lt_log2_self
    have h4 : n * 2 ^ (52 - n.log2) < 2 ^ (n.log2 + 1) * 2 ^ (52 - n.log2) := Nat.mul_lt_mul_of_pos_right h3 (Nat.two_pow_pos _)
    rw [← Nat.pow_add, show n.log2 + 1 + (52 - n.log2) = 53 by omega] at h4
    exact h4
  unfold Format.nearest
  simp only [if_neg hne, hleast, hlast, hkept, hbin, hinf]
  unfold Format.word
  rw [if_neg (by decide), show (p + (n.log2 : Int) - 52 - -1074).toNat = (p + n.log2 + 1022).toNat by omega]
  refine Nat.min_eq_left ?_
  have : (p + (n.log2 : Int) + 1022).toNat ≤ 1974 := by omega
  omega
theorem F_eq {n : Nat} {p : Int} (h0 : 0 < n) (h : n < 9007199254740992) (h1 : -1000 ≤ p) (h2 : p ≤ 900) : F n p = (p + n.log2 + 1022).toNat * 4503599627370496 + n * 2 ^ (52 - n.log2) := by
  have := nearest_scaled 0 h0 h h1 h2
  rwa [Nat.shiftLeft_zero, Int.natCast_zero, Int.sub_zero] at this
/-- the same number, its place lower -/
theorem F_scaled {n : Nat} (a : Nat) {p : Int} (h : n < 9007199254740992) (h1 : -1000 ≤ p) (h2 : p ≤ 900) : double.nearest false (n <<< a) (p - a) = F n p := by
  rcases Nat.eq_zero_or_pos n with h0 | h0
  · subst h0; rw [Nat.zero_shiftLeft, nearest_zero, F_zero]
  · rw [nearest_scaled a h0 h h1 h2, F_eq h0 h h1 h2]
/-- what such a word stands for -/
theorem read_F {n : Nat} {p : Int} (h : n < 9007199254740992) (h1 : -1000 ≤ p) (h2 : p ≤ 900) : ∃ (a : Nat) (b : Int), double.read (F n p) = .number false (n <<< a) b ∧ (0 < n → b = p - a ∧ a ≤ 52) := by
  rcases Nat.eq_zero_or_pos n with h0 | h0
  · subst h0; exact ⟨0, -1074, by rw [F_zero]; decide +kernel, fun h => absurd h (by decide)⟩
  have hL := log2_lt h0 h
  rw [F_eq h0 h h1 h2]
  obtain ⟨k, hk⟩ : ∃ k, n * 2 ^ (52 - n.log2) = 4503599627370496 + k ∧ k < 4503599627370496 := by
    have h3 : 2 ^ n.log2 ≤ n := Nat.log2_self_le (by omega)
    have h4 : 2 ^ n.log2 * 2 ^ (52 - n.log2) ≤ n * 2 ^ (52 - n.log2) := Nat.mul_le_mul_right _ h3
    rw [← Nat.pow_add, show n.log2 + (52 - n.log2) = 52 by omega] at h4
    have h5 : n < 2 ^ (n.log2 + 1) := Nat.lt_log2_self
    have h6 : n * 2 ^ (52 - n.log2) < 2 ^ (n.log2 + 1) * 2 ^ (52 - n.log2) := Nat.mul_lt_mul_of_pos_right h5 (Nat.two_pow_pos _)
    rw [← Nat.pow_add, show n.log2 + 1 + (52 - n.log2) = 53 by omega] at h6
    exact ⟨n * 2 ^ (52 - n.log2) - 4503599627370496, by omega, by omega⟩
  obtain ⟨q, hq⟩ : ∃ q : Nat, (p + n.log2 + 1022).toNat = q := ⟨_, rfl⟩
  have hq2 : q ≤ 1974 := by omega
  have hleast : double.leastPlace = -1074 := by decide
  have hbin : double.binade = 4503599627370496 := by decide
  have hinf : double.infRung = 9218868437227405312 := by decide
  have hsw : double.signWeight = 9223372036854775808 := by decide
  refine ⟨52 - n.log2, p - (52 - n.log2 : Nat), ?_, fun _ => ⟨rfl, by omega⟩⟩
  rw [hq, Nat.shiftLeft_eq, hk.1]
  have e1 : (q * 4503599627370496 + (4503599627370496 + k)) / 9223372036854775808 = 0 := Nat.div_eq_of_lt (by omega)
  have e2 : (q * 4503599627370496 + (4503599627370496 + k)) % 9223372036854775808 = q * 4503599627370496 + (4503599627370496 + k) := Nat.mod_eq_of_lt (by omega)
  have e3 : (q * 4503599627370496 + (4503599627370496 + k)) % 4503599627370496 = k := by omega
  have e4 : (q * 4503599627370496 + (4503599627370496 + k)) / 4503599627370496 = q + 1 := by omega
  unfold Format.read
  simp only [hsw, hbin, hinf, hleast, e1, e2, e3, e4]
  rw [if_neg (by omega), if_pos (by omega)]
  congr 1
  omega
/-- what stands for n * 2 ^ p -/
def Rep (d : Datum) (n : Nat) (p : Int) : Prop := ∃ (a : Nat) (b : Int), d = .number false (n <<< a) b ∧ (0 < n → b = p - a)
theorem Rep.read {n : Nat} {p : Int} (h : n < 9007199254740992) (h1 : -1000 ≤ p) (h2 : p ≤ 900) : Rep (double.read (F n p)) n p := by
  obtain ⟨a, b, h3, h4⟩ := read_F h h1 h2
  exact ⟨a, b, h3, fun h => (h4 h).1⟩
theorem Rep.write {d : Datum} {n : Nat} {p : Int} (hd : Rep d n p) (h : n < 9007199254740992) (h1 : -1000 ≤ p) (h2 : p ≤ 900) : double.write d = F n p := by
  obtain ⟨a, b, rfl, hb⟩ := hd
  show double.nearest false (n <<< a) b = _
  rcases Nat.eq_zero_or_pos n with h0 | h0
  · subst h0; rw [Nat.zero_shiftLeft, nearest_zero, F_zero]
  · rw [hb h0]; exact F_scaled a h h1 h2
theorem signed_pos (m u : Nat) : signed false m u = ((m <<< u : Nat) : Int) := rfl
theorem Rep.sum {d e : Datum} {n m : Nat} {p : Int} (hd : Rep d n p) (he : Rep e m p) : ∃ r, d.sum e = some r ∧ Rep r (n + m) p := by
  obtain ⟨a, i, rfl, hi⟩ := hd
  obtain ⟨b, j, rfl, hj⟩ := he
  refine ⟨_, rfl, ?_⟩
  rw [signed_pos, signed_pos]
  obtain ⟨x, hx⟩ : ∃ x, (i - min i j).toNat = x := ⟨_, rfl⟩
  obtain ⟨y, hy⟩ : ∃ y, (j - min i j).toNat = y := ⟨_, rfl⟩
  rw [hx, hy, ← Nat.shiftLeft_add, ← Nat.shiftLeft_add, ← Int.natCast_add]
  have key : ∃ c : Nat, n <<< (a + x) + m <<< (b + y) = (n + m) <<< c ∧ (0 < n + m → min i j = p - c) := by
    rcases Nat.eq_zero_or_pos n with h0 | h0
    · subst h0
      exact ⟨b + y, by rw [Nat.zero_shiftLeft, Nat.zero_add, Nat.zero_add], fun h => by have := hj (by omega); omega⟩
    · have h1 := hi h0
      rcases Nat.eq_zero_or_pos m with k0 | k0
      · subst k0
        exact ⟨a + x, by rw [Nat.zero_shiftLeft, Nat.add_zero, Nat.add_zero], fun _ => by omega⟩
      · have h2 := hj k0
        refine ⟨a + x, ?_, fun _ => by omega⟩
        rw [show b + y = a + x by omega, Nat.shiftLeft_eq, Nat.shiftLeft_eq, Nat.shiftLeft_eq, Nat.add_mul]
  obtain ⟨c, h1, h2⟩ := key
  rw [h1]
  refine ⟨c, min i j, ?_, h2⟩
  rw [Int.natAbs_natCast]
  congr 1
  by_cases h : (((n + m) <<< c : Nat) : Int) = 0
  · rw [if_pos h]; rfl
  · rw [if_neg h]; exact decide_eq_false (Int.not_lt.2 (Int.natCast_nonneg _))
theorem Rep.product {d e : Datum} {n m : Nat} {p q : Int} (hd : Rep d n p) (he : Rep e m q) : ∃ r, d.product e = some r ∧ Rep r (n * m) (p + q) := by
  obtain ⟨a, i, rfl, hi⟩ := hd
  obtain ⟨b, j, rfl, hj⟩ := he
  refine ⟨_, rfl, a + b, i + j, ?_, fun h => ?_⟩
  · rw [Nat.shiftLeft_eq, Nat.shiftLeft_eq, Nat.shiftLeft_eq, Nat.pow_add]
    congr 1
    rw [Nat.mul_assoc, Nat.mul_assoc, Nat.mul_left_comm (2 ^ a)]
  · have h1 : 0 < n := Nat.pos_of_ne_zero fun h0 => by rw [h0, Nat.zero_mul] at h; omega
    have h2 : 0 < m := Nat.pos_of_ne_zero fun h0 => by rw [h0, Nat.mul_zero] at h; omega
    have := hi h1; have := hj h2
    omega
/-- less nothing -/
theorem Rep.less_zero {d e : Datum} {n : Nat} {p q : Int} (hd : Rep d n p) (he : Rep e 0 q) : ∃ r, d.sum e.opposite = some r ∧ Rep r n p := by
  obtain ⟨a, i, rfl, hi⟩ := hd
  obtain ⟨b, j, rfl, _⟩ := he
  refine ⟨_, rfl, ?_⟩
  rw [signed_pos, Nat.zero_shiftLeft]
  have hs : ∀ u, signed (!false) 0 u = 0 := fun u => by unfold signed; simp
  rw [hs, Int.add_zero]
  obtain ⟨x, hx⟩ : ∃ x, (i - min i j).toNat = x := ⟨_, rfl⟩
  rw [hx, ← Nat.shiftLeft_add]
  refine ⟨a + x, min i j, ?_, fun h => by have := hi h; omega⟩
  rw [Int.natAbs_natCast]
  congr 1
  by_cases h : ((n <<< (a + x) : Nat) : Int) = 0
  · rw [if_pos h]; rfl
  · rw [if_neg h]; exact decide_eq_false (Int.not_lt.2 (Int.natCast_nonneg _))
/-- cut towards zero: a whole number, and one with a half -/
theorem Rep.toInt {d : Datum} {n : Nat} (hd : Rep d n 0) : d.toInt .zero = some (n : Int) := by
  obtain ⟨a, i, rfl, hi⟩ := hd
  unfold Datum.toInt Datum.integral
  show some (signed false _ 0) = _
  rw [signed_pos, Nat.shiftLeft_zero]
  rcases Nat.eq_zero_or_pos n with h0 | h0
  · subst h0
    rw [Nat.zero_shiftLeft, Nat.zero_shiftLeft]
    unfold Toward.cut
    simp
  · have h1 := hi h0
    rw [show i.toNat = 0 by omega, show (-i).toNat = a by omega, Nat.shiftLeft_zero, cut_exact .zero n a (by rw [log2_shift h0]; omega)]
theorem Rep.toInt_half {d : Datum} {n : Nat} (hd : Rep d n (-1)) : d.toInt .zero = some ((n / 2 : Nat) : Int) := by
  obtain ⟨a, i, rfl, hi⟩ := hd
  unfold Datum.toInt Datum.integral
  show some (signed false _ 0) = _
  rw [signed_pos, Nat.shiftLeft_zero]
  rcases Nat.eq_zero_or_pos n with h0 | h0
  · subst h0
    rw [Nat.zero_shiftLeft, Nat.zero_shiftLeft]
    unfold Toward.cut
    simp
  · have h1 := hi h0
    rw [show i.toNat = 0 by omega, show (-i).toNat = a + 1 by omega, Nat.shiftLeft_zero]
    have hl := log2_shift h0 a
    unfold Toward.cut
    simp only [Nat.min_eq_left (show a + 1 ≤ (n <<< a).log2 + 2 by omega), Bool.toNat_false, Nat.add_zero]
    rw [Nat.shiftLeft_eq, Nat.shiftLeft_eq, Nat.one_mul, Nat.pow_succ, ← Nat.div_div_eq_div_mul, Nat.mul_div_cancel _ (Nat.two_pow_pos a)]
/-- by two -/
theorem quotient_two {n a : Nat} {i : Int} (hi : 0 < n → i = 0 - a ∧ a ≤ 52) (hsm : n < 9007199254740992) : ∃ r, (Datum.number false (n <<< a) i).quotient 54 (.number false (2 <<< 51) (-51)) = some r ∧ Rep r n (-1) := by
  have hl : (2 <<< 51 : Nat).log2 = 52 := by decide
  have hz : ¬ (2 <<< 51 : Nat) = 0 := by decide
  refine ⟨_, by unfold Datum.quotient; simp only [if_neg hz]; rfl, ?_⟩
  rw [hl]
  rcases Nat.eq_zero_or_pos n with h0 | h0
  · subst h0
    refine ⟨0, i - -51 - ((54 + 52 - (0 <<< a : Nat).log2 : Nat) : Int) - 1, ?_, fun h => absurd h (by decide)⟩
    rw [Nat.zero_shiftLeft, Nat.zero_shiftLeft]
    simp
  · obtain ⟨h1, ha'⟩ := hi h0
    have hL := log2_lt h0 hsm
    have hlog := log2_shift h0 a
    have hD : (2 <<< 51 : Nat) = 2 ^ 52 := by decide
    obtain ⟨k, hk⟩ : ∃ k, 54 - n.log2 = k := ⟨_, rfl⟩
    have hdd : (n <<< a) <<< (54 + 52 - (n <<< a).log2) = n <<< k * 2 ^ 52 := by
      rw [← Nat.shiftLeft_add, show a + (54 + 52 - (n <<< a).log2) = k + 52 by omega, Nat.shiftLeft_eq, Nat.shiftLeft_eq, Nat.pow_add, Nat.mul_assoc]
    rw [hdd, hD, Nat.mul_div_cancel _ (Nat.two_pow_pos 52), Nat.mul_mod_left]
    refine ⟨k + 1, i - -51 - ((54 + 52 - (n <<< a).log2 : Nat) : Int) - 1, ?_, fun _ => by omega⟩
    · have e1 : 2 * n <<< k + (0 != 0).toNat = n <<< (k + 1) := by
        rw [Nat.shiftLeft_succ]; rfl
      rw [e1]; rfl
/-- THE SUM of two such words, at one place -/
theorem add_F {n m : Nat} {p : Int} (h : n + m < 9007199254740992) (h1 : -1000 ≤ p) (h2 : p ≤ 900) : floatBits .add .f64 (F n p) (F m p) = some (F (n + m) p) := by
  obtain ⟨r, hr, hR⟩ := (Rep.read (n := n) (p := p) (by omega) h1 h2).sum (Rep.read (n := m) (by omega) h1 h2)
  show double.add (F n p) (F m p) = _
  unfold Format.add
  rw [hr]
  show some (double.write r) = _
  rw [hR.write h h1 h2]
/-- THE PRODUCT -/
theorem mul_F {n m : Nat} {p q : Int} (hn : n < 9007199254740992) (hm : m < 9007199254740992) (h : n * m < 9007199254740992) (h1 : -500 ≤ p) (h2 : p ≤ 400) (h3 : -500 ≤ q) (h4 : q ≤ 400) :
    floatBits .mul .f64 (F n p) (F m q) = some (F (n * m) (p + q)) := by
  obtain ⟨r, hr, hR⟩ := (Rep.read (n := n) (p := p) hn (by omega) (by omega)).product (Rep.read (n := m) (p := q) hm (by omega) (by omega))
  show double.mul (F n p) (F m q) = _
  unfold Format.mul
  rw [hr]
  show some (double.write r) = _
  rw [hR.write h (by omega) (by omega)]
/-- less nothing -/
theorem sub_zero_F {n : Nat} {p : Int} (h : n < 9007199254740992) (h1 : -1000 ≤ p) (h2 : p ≤ 900) : floatBits .sub .f64 (F n p) 0 = some (F n p) := by
  obtain ⟨r, hr, hR⟩ := (Rep.read (n := n) (p := p) h h1 h2).less_zero (Rep.read (n := 0) (p := 0) (by decide) (by decide) (by decide))
  show double.sub (F n p) 0 = _
  unfold Format.sub
  rw [F_zero] at hr
  rw [hr]
  show some (double.write r) = _
  rw [hR.write h h1 h2]
theorem two_F : double.read (F 2 0) = .number false (2 <<< 51) (-51) := by decide +kernel
/-- THE QUOTIENT by two -/
theorem half_F {n : Nat} (h : n < 9007199254740992) : floatBits .quo .f64 (F n 0) (F 2 0) = some (F n (-1)) := by
  obtain ⟨a, b, hd, hb⟩ := read_F (n := n) (p := 0) h (by decide) (by decide)
  obtain ⟨r, hr, hR⟩ := quotient_two (n := n) (a := a) (i := b) (fun h => hb h) h
  show double.div (F n 0) (F 2 0) = _
  unfold Format.div
  rw [two_F, hd, show double.fractionBits + 2 = 54 from rfl, hr]
  show some (double.write r) = _
  rw [hR.write h (by decide) (by decide)]
/-- as whole numbers, cut towards zero -/
theorem int_F {n : Nat} (h : n < 9007199254740992) : floatToIntVal .f64 (F n 0) .i64 = some (n : Int) := by
  have hr := (Rep.read (n := n) (p := 0) h (by decide) (by decide)).toInt
  unfold floatToIntVal
  rw [show FloatKind.f64.decode (F n 0) = double.read (F n 0) from rfl, hr]
  have h1 : IntKind.i64.min = -9223372036854775808 := by decide
  have h2 : IntKind.i64.max = 9223372036854775807 := by decide
  simp only [h1, h2]
  rw [if_pos (by omega)]
theorem int_half_F {n : Nat} (h : n < 9007199254740992) : floatToIntVal .f64 (F n (-1)) .i64 = some ((n / 2 : Nat) : Int) := by
  have hr := (Rep.read (n := n) (p := -1) h (by decide) (by decide)).toInt_half
  unfold floatToIntVal
  rw [show FloatKind.f64.decode (F n (-1)) = double.read (F n (-1)) from rfl, hr]
  have h1 : IntKind.i64.min = -9223372036854775808 := by decide
  have h2 : IntKind.i64.max = 9223372036854775807 := by decide
  simp only [h1, h2]
  rw [if_pos (by omega)]
theorem of_int_F (n : Nat) : floatOfInt .f64 (n : Int) = F n 0 := by
  show double.nearest (decide ((n : Int) < 0)) (n : Int).natAbs 0 = double.nearest false n 0
  rw [Int.natAbs_natCast, decide_eq_false (Int.not_lt.2 (Int.natCast_nonneg _))]
end
end Go.Proofs.Ytbcmoepbegbnpaa
