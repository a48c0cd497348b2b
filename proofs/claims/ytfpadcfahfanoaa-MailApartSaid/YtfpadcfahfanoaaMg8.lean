/- Merged texts: MailOpen, PackMath, PaintMath. No law is proved here. -/
import Derived.Test.YtfpadcfahfanoaaMg6
import Derived.Test.YtfpadcfahfanoaaMg7
import Derived.Test.YtfpadcfahfanoaaMg0
import Derived.Lib.SmallJoins
import Derived.Test.YtfpadcfahfanoaaRightsWords
/- Looks, a message, that came in. No law is proved here. -/
namespace Go.Proofs.Ytfpadcfahfanoaa
open Go.ChangeShapes Go.WideShapes Go.ChangeAt Go.RowKit Go.Joins Go.Deep

theorem cells_look : Try.prog.cellsOf 32 = 2 := by kernel_rfl
theorem cells_mail : Try.prog.cellsOf 35 = 11 := by kernel_rfl
section
variable {H : Type} {enc : TypeId × Value → H} {W : World} {fuel : Nat} {x : DataW H × List MemPlace}
theorem one_int64 {v : Value} (h : DataW.trod enc Try.prog W 0 (fun _ => true) true fuel 2 [v] = some x) : ∃ t, v = .int .i64 t := by
  obtain ⟨t, e, _⟩ := DataW.trod_int Try.underlying2 h
  simp only [List.cons.injEq, and_true] at e
  exact ⟨t, e⟩
theorem one_int {v : Value} (h : DataW.trod enc Try.prog W 0 (fun _ => true) true fuel 3 [v] = some x) : ∃ t, v = .int .i64 t := by
  obtain ⟨t, e, _⟩ := DataW.trod_int Try.underlying3 h
  simp only [List.cons.injEq, and_true] at e
  exact ⟨t, e⟩
set_option maxRecDepth 100000 in
theorem two_stamp {a b : Value} (h : DataW.trod enc Try.prog W 0 (fun _ => true) true fuel 28 [a, b] = some x) : ∃ t u, a = .int .i64 t ∧ b = .int .i64 u := by
  obtain ⟨y0, y1, n, _, _, h0, h1⟩ := trod_struct2 Try.underlying28 h
  obtain ⟨t, e0⟩ := one_int64 (v := a) h0
  obtain ⟨u, e1⟩ := one_int (v := b) h1
  exact ⟨t, u, e0, e1⟩
set_option maxRecDepth 100000 in
theorem two_look {a b : Value} (h : DataW.trod enc Try.prog W 0 (fun _ => true) true fuel 32 [a, b] = some x) : ∃ t u, a = .int .i64 t ∧ b = .int .i64 u := by
  obtain ⟨y0, y1, n, _, _, h0, h1⟩ := trod_struct2 Try.underlying32 h
  obtain ⟨t, e0⟩ := one_int64 (v := a) h0
  obtain ⟨u, e1⟩ := one_int (v := b) h1
  exact ⟨t, u, e0, e1⟩
set_option maxRecDepth 100000 in
theorem three_request {a b c : Value} (h : DataW.trod enc Try.prog W 0 (fun _ => true) true fuel 30 [a, b, c] = some x) : ∃ t u v, a = .int .i64 t ∧ b = .int .i64 u ∧ c = .int .i64 v := by
  obtain ⟨y0, y1, n, _, _, h0, h1⟩ := trod_struct2 Try.underlying30 h
  obtain ⟨t, u, e0, e1⟩ := two_stamp (a := a) (b := b) h0
  obtain ⟨v, e2⟩ := one_int64 (v := c) h1
  exact ⟨t, u, v, e0, e1, e2⟩
end
/-- the number of a cell -/
def cellInt' : Value → Int
  | .int _ x => x
  | _ => 0
theorem open_looks_in {H : Type} {enc : TypeId × Value → H} {W : World} {v : Value} {d : DataW H} {p : List MemPlace} (hv : ∃ a len cap, v = .slice a len cap)
    (h : DataW.Trod enc Try.prog W 0 (fun _ => true) true 33 v d p) : ∃ a n c l, v = .slice a n c ∧ n = l.length ∧ Looks W (.slice a n c) l := by
  obtain ⟨a, n, c, f, rfl, hnc, _, hE, hf⟩ := open_elems_in Try.underlying33 cells_look (by decide) hv h
  refine ⟨a, n, c, (List.range n).map (fun i => (cellInt' (f i 0), cellInt' (f i 1))), rfl, by simp, ?_⟩
  unfold Looks
  rw [List.length_map, List.length_range]
  refine hE.congr fun i j hi hj => ?_
  obtain ⟨fu, x, hx⟩ := hf i hi
  have hr : (List.range 2).map (f i) = [f i 0, f i 1] := rfl
  rw [hr] at hx
  obtain ⟨t, u, e0, e1⟩ := two_look hx
  have e : lkAt ((List.range n).map (fun i => (cellInt' (f i 0), cellInt' (f i 1)))) i = (t, u) := by
    unfold lkAt
    rw [List.getElem?_map, List.getElem?_range hi]
    simp only [Option.map_some, Option.getD_some, e0, e1]
    rfl
  rw [e]
  match j, hj with
  | 0, _ => exact e0
  | 1, _ => exact e1
set_option maxRecDepth 100000 in
/-- a message that came in; its rows are no more than memory can hold -/
theorem open_mail {H : Type} {enc : TypeId × Value → H} {W : World} {base : Nat} {v : Value} {d : DataW H} {p : List MemPlace} (hv : Value.okWide Try.prog W .any base 35 v)
    (h : DataW.Trod enc Try.prog W 0 (fun _ => true) true 35 v d p) (hw : Held 35 d) :
    ∃ (x : Ml) (a1 : Option Addr) (m1 c1 : Nat) (a2 : Option Addr) (m2 c2 : Nat), v = mlV x (.slice a1 m1 c1) (.slice a2 m2 c2) ∧ MailIn W a1 m1 c1 a2 m2 c2 x ∧ Reach x.rows := by
  obtain ⟨cs, rfl, hsz⟩ := okWide_struct Try.underlying35 hv
  obtain ⟨fuel, hf⟩ := h
  obtain ⟨xs, m, _, hxe, _, hlen, hat⟩ := DataW.trod_struct Try.underlying35 hf
  rw [cells_mail] at hsz
  obtain ⟨l⟩ := cs
  match l, hsz with
  | [v0, v1, v2, v3, v4, v5, v6, v7, v8, v9, v10], _ =>
    have hl8 : xs.length = 8 := hlen
    have E : ∀ j, (hj : j < 8) → xs[j]? = some (xs[j]'(by omega)) := fun j hj => List.getElem?_eq_getElem (by omega)
    have h0 := hat 0 _ rfl
    have h1 := hat 1 _ rfl
    have h2 := hat 2 _ rfl
    have h3 := hat 3 _ rfl
    have h4 := hat 4 _ rfl
    have h5 := hat 5 _ rfl
    have h6 := hat 6 _ rfl
    have h7 := hat 7 _ rfl
    rw [E 0 (by decide)] at h0
    rw [E 1 (by decide)] at h1
    rw [E 2 (by decide)] at h2
    rw [E 3 (by decide)] at h3
    rw [E 4 (by decide)] at h4
    rw [E 5 (by decide)] at h5
    rw [E 6 (by decide)] at h6
    rw [E 7 (by decide)] at h7
    obtain ⟨fr, rfl⟩ := one_int (v := v0) h0
    obtain ⟨tg, rfl⟩ := one_int (v := v1) h1
    obtain ⟨clk, rfl⟩ := one_int64 (v := v2) h2
    obtain ⟨b1, n1, k1, rfl⟩ := slice_of_trod (v := v3) Try.underlying26 h3
    obtain ⟨t, a, mm, rfl, rfl, rfl⟩ := three_request (a := v4) (b := v5) (c := v6) h4
    obtain ⟨asks, rfl⟩ := one_int (v := v7) h5
    obtain ⟨tr, ph, rfl, rfl⟩ := two_look (a := v8) (b := v9) h6
    obtain ⟨b2, n2, k2, rfl⟩ := slice_of_trod (v := v10) Try.underlying33 h7
    have hy : d = _ := congrArg Prod.fst hxe
    obtain ⟨a1, m1, c1, rows, e1, hm1, hB1, hR⟩ := open_books_in ⟨b1, n1, k1, rfl⟩ ⟨_, h3⟩ fun q hq => hw q (by
      rw [hy]
      simp only [DataW.weights, Try.underlying35]
      exact DataW.weights_mem_each (j := 3) rfl (by rw [List.getElem?_map, E 3 (by decide)]; rfl) q hq)
    obtain ⟨a2, m2, c2, echo, e2, hm2, hB2⟩ := open_looks_in ⟨b2, n2, k2, rfl⟩ ⟨_, h7⟩
    rw [e1, e2]
    exact ⟨⟨fr, tg, clk, rows, t, a, mm, asks, tr, ph, echo⟩, a1, m1, c1, a2, m2, c2, rfl, ⟨hm1, hB1, hm2, hB2⟩, hR⟩
end Go.Proofs.Ytfpadcfahfanoaa

/- Plain mathematics of a number's bytes: seven bits a byte, the lowest first; what begins so, and what does not. No program is imported. -/
namespace PackMath

def num (v : Nat) : List Int := if v < 128 then [(v : Int)] else ((v % 128 + 128 : Nat) : Int) :: num (v / 128)
termination_by v
decreasing_by omega

theorem num_lt {v : Nat} (h : v < 128) : num v = [(v : Int)] := by rw [num, if_pos h]
theorem num_ge {v : Nat} (h : 128 ≤ v) : num v = ((v % 128 + 128 : Nat) : Int) :: num (v / 128) := by rw [num, if_neg (by omega)]
theorem num_cons {a r : Nat} (ha : a < 128) (hr : 0 < r) : num (a + 128 * r) = ((a + 128 : Nat) : Int) :: num r := by
  rw [num_ge (by omega), show (a + 128 * r) % 128 = a by omega, show (a + 128 * r) / 128 = r by omega]

theorem num_pos (v : Nat) : 0 < (num v).length := by
  rw [num]; split <;> simp
theorem num_ne (v : Nat) : num v ≠ [] := fun h => by have := num_pos v; rw [h] at this; simp at this

theorem num_bytes (v : Nat) : ∀ c ∈ num v, 0 ≤ c ∧ c < 256 := by
  induction v using num.induct with
  | case1 v h => rw [num_lt h]; intro c hc; simp at hc; omega
  | case2 v h ih =>
    rw [num_ge (by omega)]
    intro c hc
    rcases List.mem_cons.1 hc with rfl | hc
    · omega
    · exact ih c hc

theorem num_len_le (k : Nat) : ∀ v, v < 128 ^ (k + 1) → (num v).length ≤ k + 1 := by
  induction k with
  | zero => intro v h; rw [num_lt (by simpa using h)]; simp
  | succ k ih =>
    intro v h
    by_cases h1 : v < 128
    · rw [num_lt h1]; simp
    · rw [num_ge (by omega), List.length_cons]
      have := ih (v / 128) (by rw [Nat.div_lt_iff_lt_mul (by decide)]; rw [Nat.pow_succ] at h; exact h)
      omega
theorem num_len_64 (v : Nat) (h : v < 18446744073709551616) : (num v).length ≤ 10 := num_len_le 9 v (by
  have : (128 : Nat) ^ (9 + 1) = 1180591620717411303424 := by decide
  omega)

theorem num_len_mono : ∀ (a b : Nat), a ≤ b → (num a).length ≤ (num b).length := by
  intro a
  induction a using num.induct with
  | case1 a h => intro b _; rw [num_lt h]; have := num_pos b; simp; omega
  | case2 a h ih =>
    intro b hb
    rw [num_ge (v := a) (by omega), num_ge (v := b) (by omega), List.length_cons, List.length_cons]
    have := ih (b / 128) (by omega)
    omega

/-- No number's bytes begin another number's. -/
theorem num_prefix : ∀ (a b : Nat) (x y : List Int), num a ++ x = num b ++ y → a = b ∧ x = y := by
  intro a
  induction a using num.induct with
  | case1 a h =>
    intro b x y e
    by_cases hb : b < 128
    · rw [num_lt h, num_lt hb] at e
      simp at e
      exact ⟨by omega, e.2⟩
    · rw [num_lt h, num_ge (by omega)] at e
      simp only [List.cons_append, List.nil_append, List.cons.injEq] at e
      omega
  | case2 a h ih =>
    intro b x y e
    by_cases hb : b < 128
    · rw [num_lt hb, num_ge (by omega)] at e
      simp only [List.cons_append, List.nil_append, List.cons.injEq] at e
      omega
    · rw [num_ge (v := a) (by omega), num_ge (v := b) (by omega)] at e
      simp only [List.cons_append, List.cons.injEq] at e
      obtain ⟨h1, h2⟩ := ih (b / 128) x y e.2
      exact ⟨by omega, h2⟩
theorem num_inj {a b : Nat} (h : num a = num b) : a = b := (num_prefix a b [] [] (by simpa using h)).1

/-- The number with whose bytes a list begins, and what is behind. -/
def Begins (zs : List Int) (v : Nat) (rest : List Int) : Prop := v < 18446744073709551616 ∧ zs = num v ++ rest
def Bare (zs : List Int) : Prop := ∀ v rest, v < 18446744073709551616 → zs ≠ num v ++ rest
theorem begins_or (zs : List Int) : (∃ v rest, Begins zs v rest) ∨ Bare zs := by
  by_cases h : ∃ v rest, Begins zs v rest
  · exact Or.inl h
  · exact Or.inr fun v rest hv e => h ⟨v, rest, hv, e⟩
theorem Begins.unique {zs x y : List Int} {a b : Nat} (h : Begins zs a x) (k : Begins zs b y) : a = b ∧ x = y :=
  num_prefix a b x y (h.2.symm.trans k.2)

/-- What has been read of a number: the bytes p, worth m, and r to come. -/
def Read (p : List Int) (m : Nat) : Prop := m < 128 ^ p.length ∧ ∀ r, 0 < r → num (m + 128 ^ p.length * r) = p ++ num r
theorem read_nil : Read [] 0 := ⟨by decide, fun r _ => by simp⟩
theorem Read.more {p : List Int} {m d : Nat} (h : Read p m) (hd : d < 128) : Read (p ++ [((d + 128 : Nat) : Int)]) (m + 128 ^ p.length * d) := by
  have hp : 0 < 128 ^ p.length := Nat.pow_pos (by decide)
  have e1 : 128 ^ (p.length + 1) = 128 ^ p.length * 128 := Nat.pow_succ _ _
  refine ⟨?_, fun r hr => ?_⟩
  · rw [List.length_append, List.length_singleton, e1]
    have h1 := h.1
    have h2 : 128 ^ p.length * (d + 1) ≤ 128 ^ p.length * 128 := Nat.mul_le_mul_left _ (by omega)
    rw [Nat.mul_add] at h2
    omega
  · rw [List.length_append, List.length_singleton, e1, Nat.mul_assoc, Nat.add_assoc, ← Nat.mul_add, h.2 _ (by omega), num_cons hd hr]
    simp
theorem Read.last {p : List Int} {m d : Nat} (h : Read p m) (hd : d < 128) (h0 : p = [] ∨ 0 < d) : num (m + 128 ^ p.length * d) = p ++ [(d : Int)] := by
  rcases h0 with rfl | h0
  · have := h.1
    simp at this
    subst this
    simp [num_lt hd]
  · rw [h.2 d h0, num_lt hd]

theorem pow7 (k : Nat) : 128 ^ k = 2 ^ (7 * k) := by
  rw [show (128 : Nat) = 2 ^ 7 from rfl, ← Nat.pow_mul]
/-- laying the next seven bits over those that are read -/
theorem or_add (m k d : Nat) (h : m < 128 ^ k) : m ||| (128 ^ k * d) = m + 128 ^ k * d := by
  rw [pow7] at h ⊢
  rw [Nat.or_comm, ← Nat.two_pow_add_eq_or_of_lt h d, Nat.add_comm]

theorem pow9 : (128 : Nat) ^ 9 = 9223372036854775808 := by decide
theorem pow_le9 {k : Nat} (h : k ≤ 8) : 128 ^ k * 128 ≤ 9223372036854775808 := by
  have : 128 ^ (k + 1) ≤ 128 ^ 9 := Nat.pow_le_pow_right (by decide) (by omega)
  rw [Nat.pow_succ, pow9] at this
  exact this
theorem Read.lt64 {p : List Int} {m d : Nat} (h : Read p m) (h9 : p.length ≤ 9) (hd : d < 128) (h1 : p.length = 9 → d ≤ 1) : m + 128 ^ p.length * d < 18446744073709551616 := by
  have hm := h.1
  by_cases e : p.length = 9
  · rw [e, pow9] at hm ⊢
    have := h1 e
    omega
  · have hp := pow_le9 (k := p.length) (by omega)
    have h2 : 128 ^ p.length * (d + 1) ≤ 128 ^ p.length * 128 := Nat.mul_le_mul_left _ (by omega)
    rw [Nat.mul_add] at h2
    omega

/-- the digits, one by one -/
theorem num_digit : ∀ (v k : Nat), k < (num v).length → (num v).getD k 0 % 128 = (((v / 128 ^ k) % 128 : Nat) : Int) := by
  intro v
  induction v using num.induct with
  | case1 v h =>
    intro k hk
    rw [num_lt h] at hk ⊢
    simp at hk
    subst hk
    simp
  | case2 v h ih =>
    intro k hk
    rw [num_ge (by omega)] at hk ⊢
    cases k with
    | zero => simp
    | succ k =>
      rw [List.getD_cons_succ, ih k (by simpa using hk), Nat.div_div_eq_div_mul, Nat.pow_succ, Nat.mul_comm]
theorem num_high : ∀ (v k : Nat), k < (num v).length → (k + 1 < (num v).length ↔ 128 ≤ (num v).getD k 0) := by
  intro v
  induction v using num.induct with
  | case1 v h =>
    intro k hk
    rw [num_lt h] at hk ⊢
    simp at hk
    subst hk
    simp
    omega
  | case2 v h ih =>
    intro k hk
    rw [num_ge (by omega)] at hk ⊢
    cases k with
    | zero =>
      have := num_pos (v / 128)
      simp
      omega
    | succ k =>
      rw [List.getD_cons_succ, List.length_cons]
      have := ih k (by simpa using hk)
      omega
theorem num_end : ∀ (v : Nat), v / 128 ^ (num v).length = 0 := by
  intro v
  induction v using num.induct with
  | case1 v h => rw [num_lt h]; simp; omega
  | case2 v h ih => rw [num_ge (by omega), List.length_cons, Nat.pow_succ, Nat.mul_comm, ← Nat.div_div_eq_div_mul]; exact ih
theorem div_step (v k : Nat) : 128 * (v / 128 ^ (k + 1)) + (v / 128 ^ k) % 128 = v / 128 ^ k := by
  rw [Nat.pow_succ, ← Nat.div_div_eq_div_mul]; omega
end PackMath

/- Books as bytes, and the books with which bytes begin: mathematics. No program in it. No law is proved here. -/
namespace Go.Proofs.Ytfpadcfahfanoaa
open Go.RowKit

/-- a number, counting modulo 2^64 -/
def u64n (x : Int) : Nat := (x % 18446744073709551616).toNat
theorem u64n_lt (x : Int) : u64n x < 18446744073709551616 := by unfold u64n; omega
theorem u64n_of {x : Int} (h0 : 0 ≤ x) (h1 : x < 18446744073709551616) : (u64n x : Int) = x := by unfold u64n; omega
theorem u64n_nat {v : Nat} (h : v < 18446744073709551616) : u64n (v : Int) = v := by unfold u64n; omega

/-- the bytes of so many numbers -/
def bytesN (ns : List Nat) : List Int := ns.flatMap PackMath.num
theorem bytesN_nil : bytesN [] = [] := rfl
theorem bytesN_cons (v : Nat) (ns : List Nat) : bytesN (v :: ns) = PackMath.num v ++ bytesN ns := rfl
theorem bytesN_append (P Q : List Nat) : bytesN (P ++ Q) = bytesN P ++ bytesN Q := by simp [bytesN]
theorem bytesN_one (v : Nat) : bytesN [v] = PackMath.num v := by simp [bytesN]
theorem bytesN_len {P : List Nat} (h : ∀ v ∈ P, v < 18446744073709551616) : (bytesN P).length ≤ 10 * P.length := by
  induction P with
  | nil => simp [bytesN]
  | cons v P ih =>
    rw [bytesN_cons, List.length_append, List.length_cons]
    have h1 := PackMath.num_len_64 v (h v (by simp))
    have h2 := ih fun x hx => h x (by simp [hx])
    omega
theorem bytesN_small (P : List Nat) : ∀ c ∈ bytesN P, 0 ≤ c ∧ c < 256 := by
  intro c hc
  unfold bytesN at hc
  rw [List.mem_flatMap] at hc
  obtain ⟨v, _, hv⟩ := hc
  exact PackMath.num_bytes v c hv
/-- what begins with fewer numbers -/
theorem bytesN_prefix : ∀ (P Q : List Nat) (x y : List Int), bytesN P ++ x = bytesN Q ++ y → P.length ≤ Q.length → ∃ Q', Q = P ++ Q' ∧ x = bytesN Q' ++ y
  | [], Q, x, y, h, _ => ⟨Q, rfl, by simpa [bytesN] using h⟩
  | v :: P, [], _, _, _, hl => absurd hl (by simp)
  | v :: P, u :: Q, x, y, h, hl => by
    rw [bytesN_cons, bytesN_cons, List.append_assoc, List.append_assoc] at h
    obtain ⟨rfl, h2⟩ := PackMath.num_prefix v u _ _ h
    obtain ⟨Q', rfl, hx⟩ := bytesN_prefix P Q x y h2 (by simpa using hl)
    exact ⟨Q', rfl, hx⟩

/-- all numbers of books, row by row -/
def rowN (r : Rw) : List Int := r.inc :: r.use :: r.out
def flatR (l : List Rw) : List Int := l.flatMap rowN
theorem flatR_nil : flatR [] = [] := rfl
theorem flatR_append (a b : List Rw) : flatR (a ++ b) = flatR a ++ flatR b := by simp [flatR]
theorem flatR_one (r : Rw) : flatR [r] = rowN r := by simp [flatR]
/-- the bytes of books -/
def booksB (l : List Rw) : List Int := bytesN ((flatR l).map u64n)
theorem booksB_append (a b : List Rw) : booksB (a ++ b) = booksB a ++ booksB b := by simp [booksB, flatR_append, bytesN_append]
theorem booksB_len (l : List Rw) : (booksB l).length ≤ 10 * (flatR l).length := by
  have := bytesN_len (P := (flatR l).map u64n) (fun v hv => by
    obtain ⟨x, _, rfl⟩ := List.mem_map.1 hv
    exact u64n_lt x)
  rwa [List.length_map] at this
theorem booksB_small (l : List Rw) : ∀ c ∈ booksB l, 0 ≤ c ∧ c < 256 := bytesN_small _

/-- rows of n numbers Out each -/
def Rowed (n : Nat) (l : List Rw) : Prop := ∀ r ∈ l, r.out.length = n
theorem flatR_len {n : Nat} {l : List Rw} (h : Rowed n l) : (flatR l).length = l.length * (n + 2) := by
  induction l with
  | nil => simp [flatR]
  | cons r l ih =>
    have h1 := h r (by simp)
    have h2 := ih fun x hx => h x (by simp [hx])
    show (rowN r ++ flatR l).length = _
    rw [List.length_append, h2, List.length_cons, Nat.succ_mul]
    simp [rowN, h1]
    omega
theorem flatR_inj {n : Nat} : ∀ {l l' : List Rw}, Rowed n l → Rowed n l' → flatR l = flatR l' → l = l'
  | [], [], _, _, _ => rfl
  | [], r :: l', _, _, h => by simp [flatR, rowN] at h
  | r :: l, [], _, _, h => by simp [flatR, rowN] at h
  | r :: l, r' :: l', h1, h2, h => by
    have e : rowN r ++ flatR l = rowN r' ++ flatR l' := h
    have hr := h1 r (by simp)
    have hr' := h2 r' (by simp)
    have hlen : (rowN r).length = (rowN r').length := by simp [rowN, hr, hr']
    obtain ⟨ha, hb⟩ := List.append_inj e hlen
    obtain rfl : r = r' := by
      obtain ⟨i, u, o⟩ := r
      obtain ⟨i', u', o'⟩ := r'
      simp only [rowN, List.cons.injEq] at ha
      obtain ⟨rfl, rfl, rfl⟩ := ha
      rfl
    rw [flatR_inj (fun x hx => h1 x (by simp [hx])) (fun x hx => h2 x (by simp [hx])) hb]
theorem mem_at {l : List Rw} {r : Rw} (h : r ∈ l) : ∃ k, k < l.length ∧ at_ l k = r := by
  obtain ⟨k, hk, rfl⟩ := List.getElem_of_mem h
  exact ⟨k, hk, at_lt hk⟩

/-- right books have N rows of N numbers, each number from 0 to 2^50 -/
theorem right_rowed {c : Cf} {l : List Rw} (h : rightOk c l) {n : Nat} (hn : c.n = (n : Int)) : l.length = n ∧ Rowed n l := by
  have h1 := h.2.1
  refine ⟨by omega, fun r hr => ?_⟩
  obtain ⟨k, hk, rfl⟩ := mem_at hr
  have := (h.fits k hk).1
  omega
theorem right_small {c : Cf} {l : List Rw} (h : rightOk c l) : ∀ x ∈ flatR l, 0 ≤ x ∧ x ≤ 1125899906842624 := by
  intro x hx
  unfold flatR at hx
  rw [List.mem_flatMap] at hx
  obtain ⟨r, hr, hx⟩ := hx
  obtain ⟨k, hk, rfl⟩ := mem_at hr
  obtain ⟨h0, h1, h2, h3, h4, h5⟩ := h.fits k hk
  simp only [rowN, List.mem_cons] at hx
  rcases hx with rfl | rfl | hx
  · omega
  · omega
  · obtain ⟨j, hj, rfl⟩ := List.getElem_of_mem hx
    have := h5 j (by omega)
    rw [List.getElem?_eq_getElem hj] at this
    exact this

/-- bytes begin with right books -/
def Starts (c : Cf) (zs : List Int) (l : List Rw) (rest : List Int) : Prop := rightOk c l ∧ zs = booksB l ++ rest
theorem map_inj {P Q : List Int} (hP : ∀ x ∈ P, 0 ≤ x ∧ x < 18446744073709551616) (hQ : ∀ x ∈ Q, 0 ≤ x ∧ x < 18446744073709551616) (h : P.map u64n = Q.map u64n) : P = Q := by
  have key : ∀ {P : List Int}, (∀ x ∈ P, 0 ≤ x ∧ x < 18446744073709551616) → (P.map u64n).map (fun v : Nat => (v : Int)) = P := by
    intro P hP
    rw [List.map_map]
    conv => rhs; rw [← List.map_id P]
    apply List.map_congr_left
    intro x hx
    exact u64n_of (hP x hx).1 (hP x hx).2
  rw [← key hP, ← key hQ, h]
/-- books that were read off, of so many rows, are the right ones, if there are any -/
theorem Starts.same {c : Cf} {zs cur rest : List Int} {l L : List Rw} (h : Starts c zs l rest) {n : Nat} (hn : c.n = (n : Int)) (hL : L.length = n) (hR : Rowed n L) (hs : ∀ x ∈ flatR L, 0 ≤ x ∧ x < 18446744073709551616)
    (hz : zs = booksB L ++ cur) : l = L ∧ rest = cur := by
  obtain ⟨h1, h2⟩ := right_rowed h.1 hn
  have hlen : ((flatR L).map u64n).length = ((flatR l).map u64n).length := by rw [List.length_map, List.length_map, flatR_len hR, flatR_len h2, hL, h1]
  obtain ⟨Q', hq, hx⟩ := bytesN_prefix ((flatR L).map u64n) ((flatR l).map u64n) cur rest (by rw [← show zs = bytesN ((flatR L).map u64n) ++ cur from hz]; exact h.2) (Nat.le_of_eq hlen)
  have hq0 : Q' = [] := by
    have := congrArg List.length hq
    rw [List.length_append] at this
    exact List.eq_nil_of_length_eq_zero (by omega)
  subst hq0
  rw [List.append_nil] at hq
  refine ⟨flatR_inj h2 hR (map_inj (fun x hx => by have := right_small h.1 x hx; omega) hs hq), ?_⟩
  rw [hx]; simp [bytesN]
theorem Starts.unique {c : Cf} {zs rest rest' : List Int} {l l' : List Rw} (h : Starts c zs l rest) (h' : Starts c zs l' rest') : l = l' ∧ rest = rest' := by
  have hn : c.n = (c.n.toNat : Int) := by have := h.1.1.1; omega
  obtain ⟨h1, h2⟩ := right_rowed h'.1 hn
  exact h.same hn h1 h2 (fun x hx => by have := right_small h'.1 x hx; omega) h'.2

open Classical in
/-- the books with which bytes begin, and what is behind; or none -/
noncomputable def takeB (c : Cf) (zs : List Int) : Option (List Rw × List Int) := if h : ∃ x : List Rw × List Int, Starts c zs x.1 x.2 then some h.choose else none
theorem takeB_yes {c : Cf} {zs rest : List Int} {l : List Rw} (h : Starts c zs l rest) : takeB c zs = some (l, rest) := by
  have hex : ∃ x : List Rw × List Int, Starts c zs x.1 x.2 := ⟨(l, rest), h⟩
  unfold takeB
  rw [dif_pos hex]
  obtain ⟨e1, e2⟩ := h.unique hex.choose_spec
  rw [e1, e2]
theorem takeB_no {c : Cf} {zs : List Int} (h : ∀ l rest, ¬ Starts c zs l rest) : takeB c zs = none := by
  unfold takeB
  exact dif_neg fun ⟨x, hx⟩ => h _ _ hx
theorem takeB_cf {c : Cf} {zs : List Int} (h : ¬ cfOk c) : takeB c zs = none := takeB_no fun _ _ hs => h hs.1.1
/-- what follows so many numbers, of right books -/
theorem Starts.next {c : Cf} {zs cur rest : List Int} {l : List Rw} {P : List Nat} (h : Starts c zs l rest) {n : Nat} (hn : c.n = (n : Int)) (hz : zs = bytesN P ++ cur) (hP : P.length < n * (n + 2)) :
    ∃ (v : Nat) (Q : List Nat), v ≤ 1125899906842624 ∧ cur = PackMath.num v ++ (bytesN Q ++ rest) := by
  obtain ⟨h1, h2⟩ := right_rowed h.1 hn
  have hl : ((flatR l).map u64n).length = n * (n + 2) := by rw [List.length_map, flatR_len h2, h1]
  obtain ⟨Q', hq, hx⟩ := bytesN_prefix P ((flatR l).map u64n) cur rest (by rw [← hz]; exact h.2) (by omega)
  cases Q' with
  | nil =>
    have := congrArg List.length hq
    rw [List.append_nil] at this
    omega
  | cons v Q =>
    refine ⟨v, Q, ?_, by rw [hx, bytesN_cons, List.append_assoc]⟩
    have hv : v ∈ (flatR l).map u64n := by rw [hq]; simp
    obtain ⟨x, hxm, rfl⟩ := List.mem_map.1 hv
    have := right_small h.1 x hxm
    have := u64n_of this.1 (by omega)
    omega
theorem takeB_bare {c : Cf} {zs cur : List Int} {P : List Nat} {n : Nat} (hn : c.n = (n : Int)) (hz : zs = bytesN P ++ cur) (hP : P.length < n * (n + 2)) (hb : PackMath.Bare cur) : takeB c zs = none :=
  takeB_no fun _ _ hs => by
    obtain ⟨v, Q, hv, hc⟩ := hs.next hn hz hP
    exact hb v _ (by omega) hc
theorem takeB_big {c : Cf} {zs cur rest : List Int} {P : List Nat} {n v : Nat} (hn : c.n = (n : Int)) (hz : zs = bytesN P ++ cur) (hP : P.length < n * (n + 2)) (hb : PackMath.Begins cur v rest) (hv : 1125899906842624 < v) : takeB c zs = none :=
  takeB_no fun _ _ hs => by
    obtain ⟨v', Q, hv', hc⟩ := hs.next hn hz hP
    have := (hb.unique ⟨by omega, hc⟩).1
    omega
theorem takeB_end {c : Cf} {zs cur : List Int} {L : List Rw} {n : Nat} (hn : c.n = (n : Int)) (hL : L.length = n) (hR : Rowed n L) (hs : ∀ x ∈ flatR L, 0 ≤ x ∧ x < 18446744073709551616) (hz : zs = booksB L ++ cur) :
    takeB c zs = if rightOk c L then some (L, cur) else none := by
  by_cases h : rightOk c L
  · rw [if_pos h, takeB_yes ⟨h, hz⟩]
  · rw [if_neg h]
    refine takeB_no fun l rest hst => h ?_
    obtain ⟨rfl, _⟩ := hst.same hn hL hR hs hz
    exact hst.1
end Go.Proofs.Ytfpadcfahfanoaa
