/- Plain mathematics of a number's bytes: seven bits a byte, the lowest first; what begins so, and what does not. No program is imported. -/
namespace PackMath

def num (v : Nat) : List Int := if v < 128 then [(v : Int)] else ((v % 128 + 128 : Nat) : Int) :: num (v / 128)
termination_by v
decreasing_by omega

theorem num_lt {v : Nat} (h : v < 128) : num v = [(v : Int)] := by rw [num, if_pos h]
theorem num_ge {v : Nat} (h : 128 ≤ v) : num v = ((v % 128 + 128 : Nat) : Int) :: num (v / 128) := by rw [num, if_neg (by omega)]
theorem num_cons {a r : Nat} (ha : a < 128) (hr : 0 < r) : num (a + 128 * r) = ((a + 128 : Nat) : Int) :: num r := by
  rw [num_ge (by omega), show (a + 128 * r) % 128 = a by omega, show (a + 128 * r) / 128 = r by omega]

theorem num_pos (v : Nat) : 0 < (num v).length := by
  rw [num]; split <;> simp
theorem num_ne (v : Nat) : num v ≠ [] := fun h => by have := num_pos v; rw [h] at this; simp at this

theorem num_bytes (v : Nat) : ∀ c ∈ num v, 0 ≤ c ∧ c < 256 := by
  induction v using num.induct with
  | case1 v h => rw [num_lt h]; intro c hc; simp at hc; omega
  | case2 v h ih =>
    rw [num_ge (by omega)]
    intro c hc
    rcases List.mem_cons.1 hc with rfl | hc
    · omega
    · exact ih c hc

theorem num_len_le (k : Nat) : ∀ v, v < 128 ^ (k + 1) → (num v).length ≤ k + 1 := by
  induction k with
  | zero => intro v h; rw [num_lt (by simpa using h)]; simp
  | succ k ih =>
    intro v h
    by_cases h1 : v < 128
    · rw [num_lt h1]; simp
    · rw [num_ge (by omega), List.length_cons]
      have := ih (v / 128) (by rw [Nat.div_lt_iff_lt_mul (by decide)]; rw [Nat.pow_succ] at h; exact h)
      omega
theorem num_len_64 (v : Nat) (h : v < 18446744073709551616) : (num v).length ≤ 10 := num_len_le 9 v (by
  have : (128 : Nat) ^ (9 + 1) = 1180591620717411303424 := by decide
  omega)

theorem num_len_mono : ∀ (a b : Nat), a ≤ b → (num a).length ≤ (num b).length := by
  intro a
  induction a using num.induct with
  | case1 a h => intro b _; rw [num_lt h]; have := num_pos b; simp; omega
  | case2 a h ih =>
    intro b hb
    rw [num_ge (v := a) (by omega), num_ge (v := b) (by omega), List.length_cons, List.length_cons]
    have := ih (b / 128) (by omega)
    omega

/-- No number's bytes begin another number's. -/
theorem num_prefix : ∀ (a b : Nat) (x y : List Int), num a ++ x = num b ++ y → a = b ∧ x = y := by
  intro a
  induction a using num.induct with
  | case1 a h =>
    intro b x y e
    by_cases hb : b < 128
    · rw [num_lt h, num_lt hb] at e
      simp at e
      exact ⟨by omega, e.2⟩
    · rw [num_lt h, num_ge (by omega)] at e
      simp only [List.cons_append, List.nil_append, List.cons.injEq] at e
      omega
  | case2 a h ih =>
    intro b x y e
    by_cases hb : b < 128
    · rw [num_lt hb, num_ge (by omega)] at e
      simp only [List.cons_append, List.nil_append, List.cons.injEq] at e
      omega
    · rw [num_ge (v := a) (by omega), num_ge (v := b) (by omega)] at e
      simp only [List.cons_append, List.cons.injEq] at e
      obtain ⟨h1, h2⟩ := ih (b / 128) x y e.2
      exact ⟨by omega, h2⟩
theorem num_inj {a b : Nat} (h : num a = num b) : a = b := (num_prefix a b [] [] (by simpa using h)).1

/-- The number with whose bytes a list begins, and what is behind. -/
def Begins (zs : List Int) (v : Nat) (rest : List Int) : Prop := v < 18446744073709551616 ∧ zs = num v ++ rest
def Bare (zs : List Int) : Prop := ∀ v rest, v < 18446744073709551616 → zs ≠ num v ++ rest
theorem begins_or (zs : List Int) : (∃ v rest, Begins zs v rest) ∨ Bare zs := by
  by_cases h : ∃ v rest, Begins zs v rest
  · exact Or.inl h
  · exact Or.inr fun v rest hv e => h ⟨v, rest, hv, e⟩
theorem Begins.unique {zs x y : List Int} {a b : Nat} (h : Begins zs a x) (k : Begins zs b y) : a = b ∧ x = y :=
  num_prefix a b x y (h.2.symm.trans k.2)

/-- What has been read of a number: the bytes p, worth m, and r to come. -/
def Read (p : List Int) (m : Nat) : Prop := m < 128 ^ p.length ∧ ∀ r, 0 < r → num (m + 128 ^ p.length * r) = p ++ num r
theorem read_nil : Read [] 0 := ⟨by decide, fun r _ => by simp⟩
theorem Read.more {p : List Int} {m d : Nat} (h : Read p m) (hd : d < 128) : Read (p ++ [((d + 128 : Nat) : Int)]) (m + 128 ^ p.length * d) := by
  have hp : 0 < 128 ^ p.length := Nat.pow_pos (by decide)
  have e1 : 128 ^ (p.length + 1) = 128 ^ p.length * 128 := Nat.pow_succ _ _
  refine ⟨?_, fun r hr => ?_⟩
  · rw [List.length_append, List.length_singleton, e1]
    have h1 := h.1
    have h2 : 128 ^ p.length * (d + 1) ≤ 128 ^ p.length * 128 := Nat.mul_le_mul_left _ (by omega)
    rw [Nat.mul_add] at h2
    omega
  · rw [List.length_append, List.length_singleton, e1, Nat.mul_assoc, Nat.add_assoc, ← Nat.mul_add, h.2 _ (by omega), num_cons hd hr]
    simp
theorem Read.last {p : List Int} {m d : Nat} (h : Read p m) (hd : d < 128) (h0 : p = [] ∨ 0 < d) : num (m + 128 ^ p.length * d) = p ++ [(d : Int)] := by
  rcases h0 with rfl | h0
  · have := h.1
    simp at this
    subst this
    simp [num_lt hd]
  · rw [h.2 d h0, num_lt hd]

theorem pow7 (k : Nat) : 128 ^ k = 2 ^ (7 * k) := by
  rw [show (128 : Nat) = 2 ^ 7 from rfl, ← Nat.pow_mul]
/-- laying the next seven bits over those that are read -/
theorem or_add (m k d : Nat) (h : m < 128 ^ k) : m ||| (128 ^ k * d) = m + 128 ^ k * d := by
  rw [pow7] at h ⊢
  rw [Nat.or_comm, ← Nat.two_pow_add_eq_or_of_lt h d, Nat.add_comm]

theorem pow9 : (128 : Nat) ^ 9 = 9223372036854775808 := by decide
theorem pow_le9 {k : Nat} (h : k ≤ 8) : 128 ^ k * 128 ≤ 9223372036854775808 := by
  have : 128 ^ (k + 1) ≤ 128 ^ 9 := Nat.pow_le_pow_right (by decide) (by omega)
  rw [Nat.pow_succ, pow9] at this
  exact this
theorem Read.lt64 {p : List Int} {m d : Nat} (h : Read p m) (h9 : p.length ≤ 9) (hd : d < 128) (h1 : p.length = 9 → d ≤ 1) : m + 128 ^ p.length * d < 18446744073709551616 := by
  have hm := h.1
  by_cases e : p.length = 9
  · rw [e, pow9] at hm ⊢
    have := h1 e
    omega
  · have hp := pow_le9 (k := p.length) (by omega)
    have h2 : 128 ^ p.length * (d + 1) ≤ 128 ^ p.length * 128 := Nat.mul_le_mul_left _ (by omega)
    rw [Nat.mul_add] at h2
    omega

/-- the digits, one by one -/
theorem num_digit : ∀ (v k : Nat), k < (num v).length → (num v).getD k 0 % 128 = (((v / 128 ^ k) % 128 : Nat) : Int) := by
  intro v
  induction v using num.induct with
  | case1 v h =>
    intro k hk
    rw [num_lt h] at hk ⊢
    simp at hk
    subst hk
    simp
  | case2 v h ih =>
    intro k hk
    rw [num_ge (by omega)] at hk ⊢
    cases k with
    | zero => simp
    | succ k =>
      rw [List.getD_cons_succ, ih k (by simpa using hk), Nat.div_div_eq_div_mul, Nat.pow_succ, Nat.mul_comm]
theorem num_high : ∀ (v k : Nat), k < (num v).length → (k + 1 < (num v).length ↔ 128 ≤ (num v).getD k 0) := by
  intro v
  induction v using num.induct with
  | case1 v h =>
    intro k hk
    rw [num_lt h] at hk ⊢
    simp at hk
    subst hk
    simp
    omega
  | case2 v h ih =>
    intro k hk
    rw [num_ge (by omega)] at hk ⊢
    cases k with
    | zero =>
      have := num_pos (v / 128)
      simp
      omega
    | succ k =>
      rw [List.getD_cons_succ, List.length_cons]
      have := ih k (by simpa using hk)
      omega
theorem num_end : ∀ (v : Nat), v / 128 ^ (num v).length = 0 := by
  intro v
  induction v using num.induct with
  | case1 v h => rw [num_lt h]; simp; omega
  | case2 v h ih => rw [num_ge (by omega), List.length_cons, Nat.pow_succ, Nat.mul_comm, ← Nat.div_div_eq_div_mul]; exact ih
theorem div_step (v k : Nat) : 128 * (v / 128 ^ (k + 1)) + (v / 128 ^ k) % 128 = v / 128 ^ k := by
  rw [Nat.pow_succ, ← Nat.div_div_eq_div_mul]; omega
end PackMath
