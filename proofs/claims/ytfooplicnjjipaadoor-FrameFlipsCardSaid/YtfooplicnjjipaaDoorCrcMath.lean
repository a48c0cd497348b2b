/- Plain mathematics of the sum of 32 bits: one step of a bit, eight of a byte, a table of four bits at once; steps are one to one. No program is imported. -/
namespace CrcMath

def poly : Nat := 3988292384
def step (s : Nat) : Nat := if s % 2 = 1 then s / 2 ^^^ poly else s / 2
def step4 (s : Nat) : Nat := step (step (step (step s)))
def times : Nat → Nat → Nat
  | 0, x => x
  | m + 1, x => step4 (times m x)
def byte (s c : Nat) : Nat := step4 (step4 (s ^^^ c))
def run (s : Nat) (l : List Int) : Nat := l.foldl (fun s c => byte s c.toNat) s
def more (s : Nat) (l : List Int) : Nat := 4294967295 - run (4294967295 - s) l
def sum (l : List Int) : Nat := 4294967295 - run 4294967295 l
def table : List Nat := [0, 498536548, 997073096, 651767980, 1994146192, 1802195444, 1303535960, 1342533948, 3988292384, 4027552580, 3604390888, 3412177804, 2607071920, 2262029012, 2685067896, 3183342108]

theorem xor_half (a b : Nat) : (a ^^^ b) / 2 = a / 2 ^^^ b / 2 := Nat.xor_div_two
theorem xor_par (a b : Nat) : (a ^^^ b) % 2 = (a % 2 + b % 2) % 2 := by
  have h : (a ^^^ b).testBit 0 = (a.testBit 0 ^^ b.testBit 0) := Nat.testBit_xor a b 0
  simp only [Nat.testBit_zero] at h
  have ha : a % 2 = 0 ∨ a % 2 = 1 := by omega
  have hb : b % 2 = 0 ∨ b % 2 = 1 := by omega
  have hc : (a ^^^ b) % 2 = 0 ∨ (a ^^^ b) % 2 = 1 := by omega
  rcases ha with ha | ha <;> rcases hb with hb | hb <;> rcases hc with hc | hc <;> simp [ha, hb, hc] at h ⊢

theorem step_eq (s : Nat) : step s = s / 2 ^^^ (if s % 2 = 1 then poly else 0) := by
  unfold step; split <;> simp

theorem step_xor (a b : Nat) : step (a ^^^ b) = step a ^^^ step b := by
  simp only [step_eq, xor_half, xor_par]
  have ha : a % 2 = 0 ∨ a % 2 = 1 := by omega
  have hb : b % 2 = 0 ∨ b % 2 = 1 := by omega
  rcases ha with ha | ha <;> rcases hb with hb | hb <;> simp [ha, hb]
  · rw [Nat.xor_assoc]
  · ac_rfl
  · have : a / 2 ^^^ poly ^^^ (b / 2 ^^^ poly) = a / 2 ^^^ b / 2 ^^^ (poly ^^^ poly) := by ac_rfl
    rw [this, Nat.xor_self, Nat.xor_zero]

theorem step4_xor (a b : Nat) : step4 (a ^^^ b) = step4 a ^^^ step4 b := by
  simp only [step4, step_xor]

theorem step_even (q : Nat) : step (2 * q) = q := by
  unfold step; rw [if_neg (by omega)]; omega

theorem step4_high (q : Nat) : step4 (16 * q) = q := by
  unfold step4
  rw [show 16 * q = 2 * (2 * (2 * (2 * q))) by omega, step_even, step_even, step_even, step_even]

theorem step4_low (r : Nat) (h : r < 16) : step4 r = table.getD r 0 := by
  have : ∀ r : Fin 16, step4 r.val = table.getD r.val 0 := by decide
  exact this ⟨r, h⟩

theorem table_lt (r : Nat) (h : r < 16) : table.getD r 0 < 4294967296 := by
  have : ∀ r : Fin 16, table.getD r.val 0 < 4294967296 := by decide
  exact this ⟨r, h⟩

theorem split16 (w : Nat) : w = 16 * (w / 16) ^^^ w % 16 := by
  apply Nat.eq_of_testBit_eq
  intro i
  rw [Nat.testBit_xor]
  rw [show (16 : Nat) = 2 ^ 4 by rfl, Nat.testBit_mod_two_pow, Nat.testBit_two_pow_mul, Nat.testBit_div_two_pow]
  by_cases h : i < 4
  · simp [h, show ¬ 4 ≤ i by omega]
  · simp [h, show 4 ≤ i by omega, show i - 4 + 4 = i by omega]

theorem step4_tab (w : Nat) : step4 w = w / 16 ^^^ table.getD (w % 16) 0 := by
  conv => lhs; rw [split16 w]
  rw [step4_xor, step4_high, step4_low _ (Nat.mod_lt _ (by decide))]

theorem poly_lt : poly < 2 ^ 32 := by decide
theorem step_lt (s : Nat) (h : s < 2 ^ 32) : step s < 2 ^ 32 := by
  rw [step_eq]
  refine Nat.xor_lt_two_pow (by omega) ?_
  split
  · exact poly_lt
  · decide
theorem step4_lt (s : Nat) (h : s < 2 ^ 32) : step4 s < 2 ^ 32 := step_lt _ (step_lt _ (step_lt _ (step_lt _ h)))
theorem byte_lt (s c : Nat) (h : s < 2 ^ 32) (hc : c < 256) : byte s c < 2 ^ 32 :=
  step4_lt _ (step4_lt _ (Nat.xor_lt_two_pow h (by omega)))

theorem xor_cancel {a b c : Nat} (h : a ^^^ c = b ^^^ c) : a = b := by
  have : (a ^^^ c) ^^^ c = (b ^^^ c) ^^^ c := by rw [h]
  rwa [Nat.xor_assoc, Nat.xor_assoc, Nat.xor_self, Nat.xor_zero, Nat.xor_zero] at this

/-- a step is one to one: its highest bit tells the lowest one that went out -/
theorem step_top (s : Nat) (h : s < 2 ^ 32) : (step s).testBit 31 = decide (s % 2 = 1) := by
  rw [step_eq, Nat.testBit_xor]
  have h0 : (s / 2).testBit 31 = false := Nat.testBit_lt_two_pow (by omega)
  rw [h0]
  split <;> rename_i h1
  · simp [h1]; decide
  · simp [h1]

theorem step_inj {s t : Nat} (hs : s < 2 ^ 32) (ht : t < 2 ^ 32) (h : step s = step t) : s = t := by
  have h1 := step_top s hs
  have h2 := step_top t ht
  rw [h, h2] at h1
  rw [step_eq, step_eq] at h
  by_cases p : s % 2 = 1
  · have q : t % 2 = 1 := by simpa [p] using h1
    rw [if_pos p, if_pos q] at h
    have := xor_cancel h
    omega
  · have q : ¬ t % 2 = 1 := by simpa [p] using h1
    rw [if_neg p, if_neg q] at h
    have := xor_cancel h
    omega

theorem step4_inj {s t : Nat} (hs : s < 2 ^ 32) (ht : t < 2 ^ 32) (h : step4 s = step4 t) : s = t :=
  step_inj hs ht (step_inj (step_lt _ hs) (step_lt _ ht) (step_inj (step_lt _ (step_lt _ hs)) (step_lt _ (step_lt _ ht))
    (step_inj (step_lt _ (step_lt _ (step_lt _ hs))) (step_lt _ (step_lt _ (step_lt _ ht))) h)))

theorem byte_inj {s t c d : Nat} (hs : s < 2 ^ 32) (ht : t < 2 ^ 32) (hc : c < 256) (hd : d < 256) (h : byte s c = byte t d) : s ^^^ c = t ^^^ d := by
  have h1 : s ^^^ c < 2 ^ 32 := Nat.xor_lt_two_pow hs (by omega)
  have h2 : t ^^^ d < 2 ^ 32 := Nat.xor_lt_two_pow ht (by omega)
  exact step4_inj h1 h2 (step4_inj (step4_lt _ h1) (step4_lt _ h2) h)

def Small (l : List Int) : Prop := ∀ c ∈ l, 0 ≤ c ∧ c < 256

theorem Small.cons {c : Int} {l : List Int} (h : Small (c :: l)) : (0 ≤ c ∧ c < 256) ∧ Small l :=
  ⟨h c (by simp), fun d hd => h d (by simp [hd])⟩

theorem Small.at {l : List Int} (h : Small l) {k : Nat} (hk : k < l.length) : 0 ≤ l.getD k 0 ∧ l.getD k 0 < 256 := by
  have e : l.getD k 0 = l[k] := by simp [List.getD_eq_getElem?_getD, List.getElem?_eq_getElem hk]
  rw [e]
  exact h _ (List.getElem_mem hk)

theorem run_nil (s : Nat) : run s [] = s := rfl
theorem run_cons (s : Nat) (c : Int) (l : List Int) : run s (c :: l) = run (byte s c.toNat) l := rfl
theorem run_append (s : Nat) (l m : List Int) : run s (l ++ m) = run (run s l) m := by
  unfold run; rw [List.foldl_append]
theorem run_lt (l : List Int) : ∀ (s : Nat), s < 2 ^ 32 → Small l → run s l < 2 ^ 32 := by
  induction l with
  | nil => intro s h _; exact h
  | cons c l ih =>
    intro s h hl
    exact ih _ (byte_lt _ _ h (by have := hl.cons.1; omega)) hl.cons.2
theorem run_inj (l : List Int) : ∀ {s t : Nat}, s < 2 ^ 32 → t < 2 ^ 32 → Small l → run s l = run t l → s = t := by
  induction l with
  | nil => intro s t _ _ _ h; exact h
  | cons c l ih =>
    intro s t hs ht hl h
    have hc := hl.cons.1
    have := ih (byte_lt s c.toNat hs (by omega)) (byte_lt t c.toNat ht (by omega)) hl.cons.2 h
    exact xor_cancel (byte_inj hs ht (by omega) (by omega) this)

theorem more_lt (s : Nat) (l : List Int) : more s l < 4294967296 := by unfold more; omega
theorem sum_nil : sum [] = 0 := by unfold sum; rw [run_nil]
theorem more_zero (l : List Int) : more 0 l = sum l := rfl
theorem more_nil (s : Nat) (h : s < 2 ^ 32) : more s [] = s := by unfold more; rw [run_nil]; omega
theorem more_more (s : Nat) (l m : List Int) (h : s < 2 ^ 32) (hl : Small l) : more (more s l) m = more s (l ++ m) := by
  unfold more
  have := run_lt l (4294967295 - s) (by omega) hl
  rw [run_append, show 4294967295 - (4294967295 - run (4294967295 - s) l) = run (4294967295 - s) l by omega]
theorem more_sum (l m : List Int) (hl : Small l) : more (sum l) m = sum (l ++ m) := by
  rw [← more_zero, ← more_zero]; exact more_more 0 l m (by decide) hl

theorem Small.append {l m : List Int} (h : Small (l ++ m)) : Small l ∧ Small m :=
  ⟨fun c hc => h c (by simp [hc]), fun c hc => h c (by simp [hc])⟩

/-- one byte turned: another sum -/
theorem sum_turned (p q : List Int) (c d : Int) (h : Small (p ++ c :: q)) (hd : 0 ≤ d ∧ d < 256) (hn : c ≠ d) :
    sum (p ++ c :: q) ≠ sum (p ++ d :: q) := by
  have hp := h.append.1
  have hc := h.append.2.cons
  intro e
  unfold sum at e
  rw [run_append, run_append, run_cons, run_cons] at e
  have h0 := run_lt p 4294967295 (by decide) hp
  have h1 := byte_lt _ c.toNat h0 (by omega)
  have h2 := byte_lt _ d.toNat h0 (by omega)
  have h3 := run_lt q _ h1 hc.2
  have h4 := run_lt q _ h2 hc.2
  have := run_inj q h1 h2 hc.2 (by omega)
  have := byte_inj h0 h0 (by omega) (by omega) this
  have : c.toNat = d.toNat := by
    rw [Nat.xor_comm, Nat.xor_comm _ d.toNat] at this
    exact xor_cancel this
  omega

theorem sum_set (l : List Int) (k : Nat) (d : Int) (hk : k < l.length) (h : Small l) (hd : 0 ≤ d ∧ d < 256) (hn : l.getD k 0 ≠ d) :
    sum (l.set k d) ≠ sum l := by
  have e1 : l = l.take k ++ l.getD k 0 :: l.drop (k + 1) := by
    rw [show l.getD k 0 = l[k] by simp [List.getD_eq_getElem?_getD, List.getElem?_eq_getElem hk], List.getElem_cons_drop, List.take_append_drop]
  have e2 : l.set k d = l.take k ++ d :: l.drop (k + 1) := by
    rw [List.set_eq_take_append_cons_drop, if_pos hk]
  have := sum_turned (l.take k) (l.drop (k + 1)) (l.getD k 0) d (by rw [← e1]; exact h) hd hn
  rw [e2]
  intro e
  apply this
  rw [e, ← e1]

/-- a bit turned in a byte makes another byte -/
theorem turned_ne (c : Nat) (i : Nat) : c ^^^ 2 ^ i ≠ c := by
  intro h
  have := congrArg (fun x => x.testBit i) h
  simp [Nat.testBit_xor, Nat.testBit_two_pow_self] at this

/-- a step, so many times -/
def steps : Nat → Nat → Nat
  | 0, x => x
  | m + 1, x => step (steps m x)
theorem steps_lt (m : Nat) : ∀ x, x < 2 ^ 32 → steps m x < 2 ^ 32 := by
  induction m with
  | zero => intro x h; exact h
  | succ m ih => intro x h; exact step_lt _ (ih x h)
theorem steps_8 (s c : Nat) : steps 8 (s ^^^ c) = byte s c := rfl
theorem step_odd (y : Nat) (h : y % 2 = 1) : step y = y / 2 ^^^ poly := by unfold step; rw [if_pos h]
theorem step_even' (y : Nat) (h : ¬ y % 2 = 1) : step y = y / 2 := by unfold step; rw [if_neg h]

end CrcMath
