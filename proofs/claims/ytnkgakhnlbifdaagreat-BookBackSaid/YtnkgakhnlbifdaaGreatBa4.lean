/- Parts, as far as BookBackCards reaches them, of: PackMath, PaintMath, MailMath. No law is proved here. -/
import Derived.Test.YtnkgakhnlbifdaaGreatBa2
namespace PackMath
def num (v : Nat) : List Int := if v < 128 then [(v : Int)] else ((v % 128 + 128 : Nat) : Int) :: num (v / 128)
termination_by v
decreasing_by omega
theorem num_lt {v : Nat} (h : v < 128) : num v = [(v : Int)] := by rw [num, if_pos h]
theorem num_ge {v : Nat} (h : 128 ≤ v) : num v = ((v % 128 + 128 : Nat) : Int) :: num (v / 128) := by rw [num, if_neg (by omega)]
theorem num_cons {a r : Nat} (ha : a < 128) (hr : 0 < r) : num (a + 128 * r) = ((a + 128 : Nat) : Int) :: num r := by
 rw [num_ge (by omega), show (a + 128 * r) % 128 = a by omega, show (a + 128 * r) / 128 = r by omega]
theorem num_pos (v : Nat) : 0 < (num v).length := by
 rw [num]; split <;> simp
theorem num_len_le (k : Nat) : ∀ v, v < 128 ^ (k + 1) → (num v).length ≤ k + 1 := by
 induction k with
 | zero => intro v h; rw [num_lt (by simpa using h)]; simp
 | succ k ih =>
   intro v h
   by_cases h1 : v < 128
   · rw [num_lt h1]; simp
   · rw [num_ge (by omega), List.length_cons]
     have := ih (v / 128) (by rw [Nat.div_lt_iff_lt_mul (by decide)]; rw [Nat.pow_succ] at h; exact h)
     omega
theorem num_len_64 (v : Nat) (h : v < 18446744073709551616) : (num v).length ≤ 10 := num_len_le 9 v (by
 have : (128 : Nat) ^ (9 + 1) = 1180591620717411303424 := by decide
 omega)
theorem num_prefix : ∀ (a b : Nat) (x y : List Int), num a ++ x = num b ++ y → a = b ∧ x = y := by
 intro a
 induction a using num.induct with
 | case1 a h =>
   intro b x y e
   by_cases hb : b < 128
   · rw [num_lt h, num_lt hb] at e
     simp at e
     exact ⟨by omega, e.2⟩
   · rw [num_lt h, num_ge (by omega)] at e
     simp only [List.cons_append, List.nil_append, List.cons.injEq] at e
     omega
 | case2 a h ih =>
   intro b x y e
   by_cases hb : b < 128
   · rw [num_lt hb, num_ge (by omega)] at e
     simp only [List.cons_append, List.nil_append, List.cons.injEq] at e
     omega
   · rw [num_ge (v := a) (by omega), num_ge (v := b) (by omega)] at e
     simp only [List.cons_append, List.cons.injEq] at e
     obtain ⟨h1, h2⟩ := ih (b / 128) x y e.2
     exact ⟨by omega, h2⟩
def Begins (zs : List Int) (v : Nat) (rest : List Int) : Prop := v < 18446744073709551616 ∧ zs = num v ++ rest
def Bare (zs : List Int) : Prop := ∀ v rest, v < 18446744073709551616 → zs ≠ num v ++ rest
theorem begins_or (zs : List Int) : (∃ v rest, Begins zs v rest) ∨ Bare zs := by
 by_cases h : ∃ v rest, Begins zs v rest
 · exact Or.inl h
 · exact Or.inr fun v rest hv e => h ⟨v, rest, hv, e⟩
theorem Begins.unique {zs x y : List Int} {a b : Nat} (h : Begins zs a x) (k : Begins zs b y) : a = b ∧ x = y :=
 num_prefix a b x y (h.2.symm.trans k.2)
def Read (p : List Int) (m : Nat) : Prop := m < 128 ^ p.length ∧ ∀ r, 0 < r → num (m + 128 ^ p.length * r) = p ++ num r
theorem read_nil : Read [] 0 := ⟨by decide, fun r _ => by simp⟩
theorem Read.more {p : List Int} {m d : Nat} (h : Read p m) (hd : d < 128) : Read (p ++ [((d + 128 : Nat) : Int)]) (m + 128 ^ p.length * d) := by
 have hp : 0 < 128 ^ p.length := Nat.pow_pos (by decide)
 have e1 : 128 ^ (p.length + 1) = 128 ^ p.length * 128 := Nat.pow_succ _ _
 refine ⟨?_, fun r hr => ?_⟩
 · rw [List.length_append, List.length_singleton, e1]
   have h1 := h.1
   have h2 : 128 ^ p.length * (d + 1) ≤ 128 ^ p.length * 128 := Nat.mul_le_mul_left _ (by omega)
   rw [Nat.mul_add] at h2
   omega
 · rw [List.length_append, List.length_singleton, e1, Nat.mul_assoc, Nat.add_assoc, ← Nat.mul_add, h.2 _ (by omega), num_cons hd hr]
   simp
theorem Read.last {p : List Int} {m d : Nat} (h : Read p m) (hd : d < 128) (h0 : p = [] ∨ 0 < d) : num (m + 128 ^ p.length * d) = p ++ [(d : Int)] := by
 rcases h0 with rfl | h0
 · have := h.1
   simp at this
   subst this
   simp [num_lt hd]
 · rw [h.2 d h0, num_lt hd]
theorem pow7 (k : Nat) : 128 ^ k = 2 ^ (7 * k) := by
 rw [show (128 : Nat) = 2 ^ 7 from rfl, ← Nat.pow_mul]
theorem or_add (m k d : Nat) (h : m < 128 ^ k) : m ||| (128 ^ k * d) = m + 128 ^ k * d := by
 rw [pow7] at h ⊢
 rw [Nat.or_comm, ← Nat.two_pow_add_eq_or_of_lt h d, Nat.add_comm]
theorem pow9 : (128 : Nat) ^ 9 = 9223372036854775808 := by decide
theorem pow_le9 {k : Nat} (h : k ≤ 8) : 128 ^ k * 128 ≤ 9223372036854775808 := by
 have : 128 ^ (k + 1) ≤ 128 ^ 9 := Nat.pow_le_pow_right (by decide) (by omega)
 rw [Nat.pow_succ, pow9] at this
 exact this
theorem Read.lt64 {p : List Int} {m d : Nat} (h : Read p m) (h9 : p.length ≤ 9) (hd : d < 128) (h1 : p.length = 9 → d ≤ 1) : m + 128 ^ p.length * d < 18446744073709551616 := by
 have hm := h.1
 by_cases e : p.length = 9
 · rw [e, pow9] at hm ⊢
   have := h1 e
   omega
 · have hp := pow_le9 (k := p.length) (by omega)
   have h2 : 128 ^ p.length * (d + 1) ≤ 128 ^ p.length * 128 := Nat.mul_le_mul_left _ (by omega)
   rw [Nat.mul_add] at h2
   omega
end PackMath
namespace Go.Proofs.YtnkgakhnlbifdaaGreat
open Go.RowKit
def u64n (x : Int) : Nat := (x % 18446744073709551616).toNat
theorem u64n_lt (x : Int) : u64n x < 18446744073709551616 := by unfold u64n; omega
theorem u64n_of {x : Int} (h0 : 0 ≤ x) (h1 : x < 18446744073709551616) : (u64n x : Int) = x := by unfold u64n; omega
theorem u64n_nat {v : Nat} (h : v < 18446744073709551616) : u64n (v : Int) = v := by unfold u64n; omega
def bytesN (ns : List Nat) : List Int := ns.flatMap PackMath.num
theorem bytesN_cons (v : Nat) (ns : List Nat) : bytesN (v :: ns) = PackMath.num v ++ bytesN ns := rfl
theorem bytesN_append (P Q : List Nat) : bytesN (P ++ Q) = bytesN P ++ bytesN Q := by simp [bytesN]
theorem bytesN_one (v : Nat) : bytesN [v] = PackMath.num v := by simp [bytesN]
theorem bytesN_len {P : List Nat} (h : ∀ v ∈ P, v < 18446744073709551616) : (bytesN P).length ≤ 10 * P.length := by
 induction P with
 | nil => simp [bytesN]
 | cons v P ih =>
   rw [bytesN_cons, List.length_append, List.length_cons]
   have h1 := PackMath.num_len_64 v (h v (by simp))
   have h2 := ih fun x hx => h x (by simp [hx])
   omega
theorem bytesN_prefix : ∀ (P Q : List Nat) (x y : List Int), bytesN P ++ x = bytesN Q ++ y → P.length ≤ Q.length → ∃ Q', Q = P ++ Q' ∧ x = bytesN Q' ++ y
 | [], Q, x, y, h, _ => ⟨Q, rfl, by simpa [bytesN] using h⟩
 | v :: P, [], _, _, _, hl => absurd hl (by simp)
 | v :: P, u :: Q, x, y, h, hl => by
   rw [bytesN_cons, bytesN_cons, List.append_assoc, List.append_assoc] at h
   obtain ⟨rfl, h2⟩ := PackMath.num_prefix v u _ _ h
   obtain ⟨Q', rfl, hx⟩ := bytesN_prefix P Q x y h2 (by simpa using hl)
   exact ⟨Q', rfl, hx⟩
def rowN (r : Rw) : List Int := r.inc :: r.use :: r.out
def flatR (l : List Rw) : List Int := l.flatMap rowN
theorem flatR_append (a b : List Rw) : flatR (a ++ b) = flatR a ++ flatR b := by simp [flatR]
theorem flatR_one (r : Rw) : flatR [r] = rowN r := by simp [flatR]
def booksB (l : List Rw) : List Int := bytesN ((flatR l).map u64n)
theorem booksB_append (a b : List Rw) : booksB (a ++ b) = booksB a ++ booksB b := by simp [booksB, flatR_append, bytesN_append]
def Rowed (n : Nat) (l : List Rw) : Prop := ∀ r ∈ l, r.out.length = n
theorem flatR_len {n : Nat} {l : List Rw} (h : Rowed n l) : (flatR l).length = l.length * (n + 2) := by
 induction l with
 | nil => simp [flatR]
 | cons r l ih =>
   have h1 := h r (by simp)
   have h2 := ih fun x hx => h x (by simp [hx])
   show (rowN r ++ flatR l).length = _
   rw [List.length_append, h2, List.length_cons, Nat.succ_mul]
   simp [rowN, h1]
   omega
theorem flatR_inj {n : Nat} : ∀ {l l' : List Rw}, Rowed n l → Rowed n l' → flatR l = flatR l' → l = l'
 | [], [], _, _, _ => rfl
 | [], r :: l', _, _, h => by simp [flatR, rowN] at h
 | r :: l, [], _, _, h => by simp [flatR, rowN] at h
 | r :: l, r' :: l', h1, h2, h => by
   have e : rowN r ++ flatR l = rowN r' ++ flatR l' := h
   have hr := h1 r (by simp)
   have hr' := h2 r' (by simp)
   have hlen : (rowN r).length = (rowN r').length := by simp [rowN, hr, hr']
   obtain ⟨ha, hb⟩ := List.append_inj e hlen
   obtain rfl : r = r' := by
    obtain ⟨i, u, o⟩ := r
    obtain ⟨i', u', o'⟩ := r'
    simp only [rowN, List.cons.injEq] at ha
    obtain ⟨rfl, rfl, rfl⟩ := ha
    rfl
   rw [flatR_inj (fun x hx => h1 x (by simp [hx])) (fun x hx => h2 x (by simp [hx])) hb]
theorem mem_at {l : List Rw} {r : Rw} (h : r ∈ l) : ∃ k, k < l.length ∧ at_ l k = r := by
 obtain ⟨k, hk, rfl⟩ := List.getElem_of_mem h
 exact ⟨k, hk, at_lt hk⟩
theorem right_rowed {c : Cf} {l : List Rw} (h : rightOk c l) {n : Nat} (hn : c.n = (n : Int)) : l.length = n ∧ Rowed n l := by
 have h1 := h.2.1
 refine ⟨by omega, fun r hr => ?_⟩
 obtain ⟨k, hk, rfl⟩ := mem_at hr
 have := (h.fits k hk).1
 omega
theorem right_small {c : Cf} {l : List Rw} (h : rightOk c l) : ∀ x ∈ flatR l, 0 ≤ x ∧ x ≤ 1125899906842624 := by
 intro x hx
 unfold flatR at hx
 rw [List.mem_flatMap] at hx
 obtain ⟨r, hr, hx⟩ := hx
 obtain ⟨k, hk, rfl⟩ := mem_at hr
 obtain ⟨h0, h1, h2, h3, h4, h5⟩ := h.fits k hk
 simp only [rowN, List.mem_cons] at hx
 rcases hx with rfl | rfl | hx
 · omega
 · omega
 · obtain ⟨j, hj, rfl⟩ := List.getElem_of_mem hx
   have := h5 j (by omega)
   rw [List.getElem?_eq_getElem hj] at this
   exact this
def Starts (c : Cf) (zs : List Int) (l : List Rw) (rest : List Int) : Prop := rightOk c l ∧ zs = booksB l ++ rest
theorem map_inj {P Q : List Int} (hP : ∀ x ∈ P, 0 ≤ x ∧ x < 18446744073709551616) (hQ : ∀ x ∈ Q, 0 ≤ x ∧ x < 18446744073709551616) (h : P.map u64n = Q.map u64n) : P = Q := by
 have key : ∀ {P : List Int}, (∀ x ∈ P, 0 ≤ x ∧ x < 18446744073709551616) → (P.map u64n).map (fun v : Nat => (v : Int)) = P := by
  intro P hP
  rw [List.map_map]
  conv => rhs; rw [← List.map_id P]
  apply List.map_congr_left
  intro x hx
  exact u64n_of (hP x hx).1 (hP x hx).2
 rw [← key hP, ← key hQ, h]
theorem Starts.same {c : Cf} {zs cur rest : List Int} {l L : List Rw} (h : Starts c zs l rest) {n : Nat} (hn : c.n = (n : Int)) (hL : L.length = n) (hR : Rowed n L) (hs : ∀ x ∈ flatR L, 0 ≤ x ∧ x < 18446744073709551616)
 (hz : zs = booksB L ++ cur) : l = L ∧ rest = cur := by
 obtain ⟨h1, h2⟩ := right_rowed h.1 hn
 have hlen : ((flatR L).map u64n).length = ((flatR l).map u64n).length := by rw [List.length_map, List.length_map, flatR_len hR, flatR_len h2, hL, h1]
 obtain ⟨Q', hq, hx⟩ := bytesN_prefix ((flatR L).map u64n) ((flatR l).map u64n) cur rest (by rw [← show zs = bytesN ((flatR L).map u64n) ++ cur from hz]; exact h.2) (Nat.le_of_eq hlen)
 have hq0 : Q' = [] := by
  have := congrArg List.length hq
  rw [List.length_append] at this
  exact List.eq_nil_of_length_eq_zero (by omega)
 subst hq0
 rw [List.append_nil] at hq
 refine ⟨flatR_inj h2 hR (map_inj (fun x hx => by have := right_small h.1 x hx; omega) hs hq), ?_⟩
 rw [hx]; simp [bytesN]
theorem Starts.unique {c : Cf} {zs rest rest' : List Int} {l l' : List Rw} (h : Starts c zs l rest) (h' : Starts c zs l' rest') : l = l' ∧ rest = rest' := by
 have hn : c.n = (c.n.toNat : Int) := by have := h.1.1.1; omega
 obtain ⟨h1, h2⟩ := right_rowed h'.1 hn
 exact h.same hn h1 h2 (fun x hx => by have := right_small h'.1 x hx; omega) h'.2
open Classical in
noncomputable def takeB (c : Cf) (zs : List Int) : Option (List Rw × List Int) := if h : ∃ x : List Rw × List Int, Starts c zs x.1 x.2 then some h.choose else none
theorem takeB_yes {c : Cf} {zs rest : List Int} {l : List Rw} (h : Starts c zs l rest) : takeB c zs = some (l, rest) := by
 have hex : ∃ x : List Rw × List Int, Starts c zs x.1 x.2 := ⟨(l, rest), h⟩
 unfold takeB
 rw [dif_pos hex]
 obtain ⟨e1, e2⟩ := h.unique hex.choose_spec
 rw [e1, e2]
theorem takeB_no {c : Cf} {zs : List Int} (h : ∀ l rest, ¬ Starts c zs l rest) : takeB c zs = none := by
 unfold takeB
 exact dif_neg fun ⟨x, hx⟩ => h _ _ hx
theorem takeB_cf {c : Cf} {zs : List Int} (h : ¬ cfOk c) : takeB c zs = none := takeB_no fun _ _ hs => h hs.1.1
theorem Starts.next {c : Cf} {zs cur rest : List Int} {l : List Rw} {P : List Nat} (h : Starts c zs l rest) {n : Nat} (hn : c.n = (n : Int)) (hz : zs = bytesN P ++ cur) (hP : P.length < n * (n + 2)) :
 ∃ (v : Nat) (Q : List Nat), v ≤ 1125899906842624 ∧ cur = PackMath.num v ++ (bytesN Q ++ rest) := by
 obtain ⟨h1, h2⟩ := right_rowed h.1 hn
 have hl : ((flatR l).map u64n).length = n * (n + 2) := by rw [List.length_map, flatR_len h2, h1]
 obtain ⟨Q', hq, hx⟩ := bytesN_prefix P ((flatR l).map u64n) cur rest (by rw [← hz]; exact h.2) (by omega)
 cases Q' with
 | nil =>
   have := congrArg List.length hq
   rw [List.append_nil] at this
   omega
 | cons v Q =>
   refine ⟨v, Q, ?_, by rw [hx, bytesN_cons, List.append_assoc]⟩
   have hv : v ∈ (flatR l).map u64n := by rw [hq]; simp
   obtain ⟨x, hxm, rfl⟩ := List.mem_map.1 hv
   have := right_small h.1 x hxm
   have := u64n_of this.1 (by omega)
   omega
theorem takeB_bare {c : Cf} {zs cur : List Int} {P : List Nat} {n : Nat} (hn : c.n = (n : Int)) (hz : zs = bytesN P ++ cur) (hP : P.length < n * (n + 2)) (hb : PackMath.Bare cur) : takeB c zs = none :=
 takeB_no fun _ _ hs => by
  obtain ⟨v, Q, hv, hc⟩ := hs.next hn hz hP
  exact hb v _ (by omega) hc
theorem takeB_big {c : Cf} {zs cur rest : List Int} {P : List Nat} {n v : Nat} (hn : c.n = (n : Int)) (hz : zs = bytesN P ++ cur) (hP : P.length < n * (n + 2)) (hb : PackMath.Begins cur v rest) (hv : 1125899906842624 < v) : takeB c zs = none :=
 takeB_no fun _ _ hs => by
  obtain ⟨v', Q, hv', hc⟩ := hs.next hn hz hP
  have := (hb.unique ⟨by omega, hc⟩).1
  omega
theorem takeB_end {c : Cf} {zs cur : List Int} {L : List Rw} {n : Nat} (hn : c.n = (n : Int)) (hL : L.length = n) (hR : Rowed n L) (hs : ∀ x ∈ flatR L, 0 ≤ x ∧ x < 18446744073709551616) (hz : zs = booksB L ++ cur) :
 takeB c zs = if rightOk c L then some (L, cur) else none := by
 by_cases h : rightOk c L
 · rw [if_pos h, takeB_yes ⟨h, hz⟩]
 · rw [if_neg h]
   refine takeB_no fun l rest hst => h ?_
   obtain ⟨rfl, _⟩ := hst.same hn hL hR hs hz
   exact hst.1
end Go.Proofs.YtnkgakhnlbifdaaGreat
namespace Go.Proofs.YtnkgakhnlbifdaaGreat
open Go.RowKit
def headN (x : Ml) : List Int := [x.fr, x.to, x.clk]
def echoN (l : List (Int × Int)) : List Int := l.flatMap fun p => [p.1, p.2]
def tailN (x : Ml) : List Int := [x.t, x.a, x.m, x.asks, x.try_, x.ph] ++ echoN x.echo
def allN (x : Ml) : List Int := headN x ++ (flatR x.rows ++ tailN x)
def mailBytes (x : Ml) : List Int := bytesN ((allN x).map u64n)
theorem echoN_len (l : List (Int × Int)) : (echoN l).length = 2 * l.length := by
 induction l with
 | nil => rfl
 | cons p l ih =>
   show ([p.1, p.2] ++ echoN l).length = _
   rw [List.length_append, ih, List.length_cons]
   simp; omega
theorem echoN_inj : ∀ {l l' : List (Int × Int)}, echoN l = echoN l' → l = l'
 | [], [], _ => rfl
 | [], p :: l, h => by simp [echoN] at h
 | p :: l, [], h => by simp [echoN] at h
 | p :: l, q :: l', h => by
   have e : [p.1, p.2] ++ echoN l = [q.1, q.2] ++ echoN l' := h
   simp only [List.cons_append, List.nil_append, List.cons.injEq] at e
   obtain ⟨e1, e2, e3⟩ := e
   rw [echoN_inj e3, Prod.ext_iff.2 ⟨e1, e2⟩]
theorem tailN_len (x : Ml) : (tailN x).length = 6 + 2 * x.echo.length := by
 unfold tailN; rw [List.length_append, echoN_len]; rfl
theorem mail_small {c : Cf} {x : Ml} (h : mailOk c x) : ∀ v ∈ allN x, 0 ≤ v ∧ v ≤ 1125899906842624 := by
 obtain ⟨hr, hf, ht, _, hk, hl, he, hn⟩ := h
 have hc := hr.1
 unfold cfOk at hc
 unfold noteB at hn
 rw [Bool.and_eq_true, Bool.and_eq_true, Bool.and_eq_true, Bool.or_eq_true, decide_eq_true_eq, decide_eq_true_eq] at hn
 obtain ⟨hclk, hhead, hasks, hlook⟩ := hn
 have hlk : ∀ {t p : Int}, lookB t p = true → 0 ≤ t ∧ t ≤ 1125899906842624 ∧ 0 ≤ p ∧ p ≤ 1125899906842624 := fun h => by
  have := of_decide_eq_true h
  unfold lookOk at this
  omega
 intro v hv
 unfold allN at hv
 rcases List.mem_append.1 hv with hv | hv
 · simp only [headN, List.mem_cons, List.not_mem_nil, or_false] at hv
   have : (noteOf x).clk = x.clk := rfl
   rcases hv with rfl | rfl | rfl <;> omega
 · rcases List.mem_append.1 hv with hv | hv
   · exact right_small hr v hv
   · unfold tailN at hv
     rcases List.mem_append.1 hv with hv | hv
     · have hh : 0 ≤ x.t ∧ x.t ≤ 1125899906842624 ∧ 0 ≤ x.a ∧ x.a ≤ 1125899906842624 ∧ 0 ≤ x.m ∧ x.m ≤ 1125899906842624 := by
        rcases hhead with hh | hh
        · have := of_decide_eq_true hh
          have e1 : (noteOf x).t = x.t := rfl
          have e2 : (noteOf x).a = x.a := rfl
          have e3 : (noteOf x).m = x.m := rfl
          omega
        · unfold hasHead at hh
          rw [Bool.and_eq_true, decide_eq_true_eq] at hh
          have h1 := of_decide_eq_true hh.1
          have h2 := hh.2
          have e1 : (noteOf x).t = x.t := rfl
          have e2 : (noteOf x).a = x.a := rfl
          have e3 : (noteOf x).m = x.m := rfl
          omega
       have h1 := hlk hlook
       have e4 : (noteOf x).asks = x.asks := rfl
       have e5 : (noteOf x).try_ = x.try_ := rfl
       have e6 : (noteOf x).ph = x.ph := rfl
       rw [e5, e6] at h1
       simp only [List.mem_cons, List.not_mem_nil, or_false] at hv
       rcases hv with rfl | rfl | rfl | rfl | rfl | rfl <;> omega
     · unfold echoN at hv
       rw [List.mem_flatMap] at hv
       obtain ⟨p, hp, hv⟩ := hv
       obtain ⟨i, hi, rfl⟩ := List.getElem_of_mem hp
       have h1 := (he i hi).1
       have e : lkAt x.echo i = x.echo[i] := by unfold lkAt; rw [List.getElem?_eq_getElem hi]; rfl
       rw [e] at h1
       have h2 := hlk h1
       simp only [List.mem_cons, List.not_mem_nil, or_false] at hv
       rcases hv with rfl | rfl <;> omega
def IsMail (c : Cf) (zs : List Int) (x : Ml) : Prop := mailOk c x ∧ zs = mailBytes x
theorem ml_ext {x y : Ml} (h1 : headN x = headN y) (h2 : x.rows = y.rows) (h3 : tailN x = tailN y) : x = y := by
 obtain ⟨fr, tg, clk, rows, t, a, m, asks, tr, ph, echo⟩ := x
 obtain ⟨fr', tg', clk', rows', t', a', m', asks', tr', ph', echo'⟩ := y
 simp only [headN, List.cons.injEq, and_true] at h1
 obtain ⟨rfl, rfl, rfl⟩ := h1
 obtain rfl : rows = rows' := h2
 have e : [t, a, m, asks, tr, ph] ++ echoN echo = [t', a', m', asks', tr', ph'] ++ echoN echo' := h3
 simp only [List.cons_append, List.nil_append, List.cons.injEq] at e
 obtain ⟨rfl, rfl, rfl, rfl, rfl, rfl, e⟩ := e
 rw [echoN_inj e]
theorem parts_inj {c : Cf} {x y : Ml} (hx : mailOk c x) {L : List Rw} (hL : (L.length : Int) = c.n ∧ ∀ r ∈ L, (r.out.length : Int) = c.n) (hy : y.rows = L) (h : allN x = allN y) : x = y := by
 have hn : c.n = (c.n.toNat : Int) := by have := hx.1.1.1; omega
 obtain ⟨h1, h2⟩ := right_rowed hx.1 hn
 have h3 : Rowed c.n.toNat y.rows := fun r hr => by have := hL.2 r (by rw [← hy]; exact hr); omega
 have h4 : y.rows.length = c.n.toNat := by rw [hy]; omega
 unfold allN at h
 obtain ⟨e1, e2⟩ := List.append_inj h rfl
 obtain ⟨e3, e4⟩ := List.append_inj e2 (by rw [flatR_len h2, flatR_len h3, h1, h4])
 exact ml_ext e1 (flatR_inj h2 h3 e3) e4
theorem mail_unique {c : Cf} {x y : Ml} (hx : mailOk c x) (hy : mailOk c y) {r r' : List Int} (h : mailBytes x ++ r = mailBytes y ++ r') : x = y ∧ r = r' := by
 have hn : c.n = (c.n.toNat : Int) := by have := hx.1.1.1; omega
 obtain ⟨h1, h2⟩ := right_rowed hx.1 hn
 obtain ⟨h3, h4⟩ := right_rowed hy.1 hn
 have hlx : (allN x).length = 3 + (c.n.toNat * (c.n.toNat + 2) + (6 + 2 * c.n.toNat)) := by
  unfold allN
  rw [List.length_append, List.length_append, flatR_len h2, h1, tailN_len, show x.echo.length = c.n.toNat by have := hx.2.2.2.2.2.1; omega]
  rfl
 have hly : (allN y).length = 3 + (c.n.toNat * (c.n.toNat + 2) + (6 + 2 * c.n.toNat)) := by
  unfold allN
  rw [List.length_append, List.length_append, flatR_len h4, h3, tailN_len, show y.echo.length = c.n.toNat by have := hy.2.2.2.2.2.1; omega]
  rfl
 obtain ⟨Q, hQ, hr⟩ := bytesN_prefix ((allN x).map u64n) ((allN y).map u64n) r r' h (by rw [List.length_map, List.length_map]; omega)
 have hQ0 : Q = [] := by
  have := congrArg List.length hQ
  rw [List.length_append, List.length_map, List.length_map] at this
  exact List.eq_nil_of_length_eq_zero (by omega)
 subst hQ0
 rw [List.append_nil] at hQ
 have e := map_inj (fun v hv => by have := mail_small hx v hv; omega) (fun v hv => by have := mail_small hy v hv; omega) hQ.symm
 exact ⟨parts_inj hx ⟨hy.1.2.1, fun r hr => by rw [h4 r hr]; omega⟩ rfl e, by rw [hr]; simp [bytesN]⟩
theorem IsMail.unique {c : Cf} {zs : List Int} {x y : Ml} (hx : IsMail c zs x) (hy : IsMail c zs y) : x = y :=
 (mail_unique hx.1 hy.1 (r := []) (r' := []) (by rw [List.append_nil, List.append_nil, ← hx.2, ← hy.2])).1
def SomeN (n : Nat) (zs : List Int) (ns : List Nat) (rest : List Int) : Prop := ns.length = n ∧ (∀ v ∈ ns, v ≤ 4611686018427387903) ∧ zs = bytesN ns ++ rest
theorem SomeN.unique {n : Nat} {zs rest rest' : List Int} {ns ns' : List Nat} (h : SomeN n zs ns rest) (h' : SomeN n zs ns' rest') : ns = ns' ∧ rest = rest' := by
 obtain ⟨Q, hQ, hr⟩ := bytesN_prefix ns ns' rest rest' (by rw [← h.2.2, ← h'.2.2]) (by rw [h.1, h'.1]; exact Nat.le_refl _)
 have hQ0 : Q = [] := by
  have := congrArg List.length hQ
  rw [List.length_append, h.1, h'.1] at this
  exact List.eq_nil_of_length_eq_zero (by omega)
 subst hQ0
 rw [List.append_nil] at hQ
 exact ⟨hQ.symm, by rw [hr]; simp [bytesN]⟩
open Classical in
noncomputable def someN (n : Nat) (zs : List Int) : Option (List Nat × List Int) := if h : ∃ x : List Nat × List Int, SomeN n zs x.1 x.2 then some h.choose else none
theorem someN_yes {n : Nat} {zs rest : List Int} {ns : List Nat} (h : SomeN n zs ns rest) : someN n zs = some (ns, rest) := by
 have hex : ∃ x : List Nat × List Int, SomeN n zs x.1 x.2 := ⟨(ns, rest), h⟩
 unfold someN
 rw [dif_pos hex]
 obtain ⟨e1, e2⟩ := hex.choose_spec.unique h
 rw [← e1, ← e2]
end Go.Proofs.YtnkgakhnlbifdaaGreat
