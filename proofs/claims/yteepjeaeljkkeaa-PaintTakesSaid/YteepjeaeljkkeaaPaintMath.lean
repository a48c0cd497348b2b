/- Books as bytes, and the books with which bytes begin: mathematics. No program in it. No law is proved here. -/
import Derived.Test.YteepjeaeljkkeaaRightsWords
import Derived.Test.YteepjeaeljkkeaaPackMath
namespace Go.Proofs.Yteepjeaeljkkeaa
open Go.RowKit

/-- a number, counting modulo 2^64 -/
def u64n (x : Int) : Nat := (x % 18446744073709551616).toNat
theorem u64n_lt (x : Int) : u64n x < 18446744073709551616 := by unfold u64n; omega
theorem u64n_of {x : Int} (h0 : 0 ≤ x) (h1 : x < 18446744073709551616) : (u64n x : Int) = x := by unfold u64n; omega
theorem u64n_nat {v : Nat} (h : v < 18446744073709551616) : u64n (v : Int) = v := by unfold u64n; omega

/-- the bytes of so many numbers -/
def bytesN (ns : List Nat) : List Int := ns.flatMap PackMath.num
theorem bytesN_nil : bytesN [] = [] := rfl
theorem bytesN_cons (v : Nat) (ns : List Nat) : bytesN (v :: ns) = PackMath.num v ++ bytesN ns := rfl
theorem bytesN_append (P Q : List Nat) : bytesN (P ++ Q) = bytesN P ++ bytesN Q := by simp [bytesN]
theorem bytesN_one (v : Nat) : bytesN [v] = PackMath.num v := by simp [bytesN]
theorem bytesN_len {P : List Nat} (h : ∀ v ∈ P, v < 18446744073709551616) : (bytesN P).length ≤ 10 * P.length := by
  induction P with
  | nil => simp [bytesN]
  | cons v P ih =>
    rw [bytesN_cons, List.length_append, List.length_cons]
    have h1 := PackMath.num_len_64 v (h v (by simp))
    have h2 := ih fun x hx => h x (by simp [hx])
    omega
theorem bytesN_small (P : List Nat) : ∀ c ∈ bytesN P, 0 ≤ c ∧ c < 256 := by
  intro c hc
  unfold bytesN at hc
  rw [List.mem_flatMap] at hc
  obtain ⟨v, _, hv⟩ := hc
  exact PackMath.num_bytes v c hv
/-- what begins with fewer numbers -/
theorem bytesN_prefix : ∀ (P Q : List Nat) (x y : List Int), bytesN P ++ x = bytesN Q ++ y → P.length ≤ Q.length → ∃ Q', Q = P ++ Q' ∧ x = bytesN Q' ++ y
  | [], Q, x, y, h, _ => ⟨Q, rfl, by simpa [bytesN] using h⟩
  | v :: P, [], _, _, _, hl => absurd hl (by simp)
  | v :: P, u :: Q, x, y, h, hl => by
    rw [bytesN_cons, bytesN_cons, List.append_assoc, List.append_assoc] at h
    obtain ⟨rfl, h2⟩ := PackMath.num_prefix v u _ _ h
    obtain ⟨Q', rfl, hx⟩ := bytesN_prefix P Q x y h2 (by simpa using hl)
    exact ⟨Q', rfl, hx⟩

/-- all numbers of books, row by row -/
def rowN (r : Rw) : List Int := r.inc :: r.use :: r.out
def flatR (l : List Rw) : List Int := l.flatMap rowN
theorem flatR_nil : flatR [] = [] := rfl
theorem flatR_append (a b : List Rw) : flatR (a ++ b) = flatR a ++ flatR b := by simp [flatR]
theorem flatR_one (r : Rw) : flatR [r] = rowN r := by simp [flatR]
/-- the bytes of books -/
def booksB (l : List Rw) : List Int := bytesN ((flatR l).map u64n)
theorem booksB_append (a b : List Rw) : booksB (a ++ b) = booksB a ++ booksB b := by simp [booksB, flatR_append, bytesN_append]
theorem booksB_len (l : List Rw) : (booksB l).length ≤ 10 * (flatR l).length := by
  have := bytesN_len (P := (flatR l).map u64n) (fun v hv => by
    obtain ⟨x, _, rfl⟩ := List.mem_map.1 hv
    exact u64n_lt x)
  rwa [List.length_map] at this
theorem booksB_small (l : List Rw) : ∀ c ∈ booksB l, 0 ≤ c ∧ c < 256 := bytesN_small _

/-- rows of n numbers Out each -/
def Rowed (n : Nat) (l : List Rw) : Prop := ∀ r ∈ l, r.out.length = n
theorem flatR_len {n : Nat} {l : List Rw} (h : Rowed n l) : (flatR l).length = l.length * (n + 2) := by
  induction l with
  | nil => simp [flatR]
  | cons r l ih =>
    have h1 := h r (by simp)
    have h2 := ih fun x hx => h x (by simp [hx])
    show (rowN r ++ flatR l).length = _
    rw [List.length_append, h2, List.length_cons, Nat.succ_mul]
    simp [rowN, h1]
    omega
theorem flatR_inj {n : Nat} : ∀ {l l' : List Rw}, Rowed n l → Rowed n l' → flatR l = flatR l' → l = l'
  | [], [], _, _, _ => rfl
  | [], r :: l', _, _, h => by simp [flatR, rowN] at h
  | r :: l, [], _, _, h => by simp [flatR, rowN] at h
  | r :: l, r' :: l', h1, h2, h => by
    have e : rowN r ++ flatR l = rowN r' ++ flatR l' := h
    have hr := h1 r (by simp)
    have hr' := h2 r' (by simp)
    have hlen : (rowN r).length = (rowN r').length := by simp [rowN, hr, hr']
    obtain ⟨ha, hb⟩ := List.append_inj e hlen
    obtain rfl : r = r' := by
      obtain ⟨i, u, o⟩ := r
      obtain ⟨i', u', o'⟩ := r'
      simp only [rowN, List.cons.injEq] at ha
      obtain ⟨rfl, rfl, rfl⟩ := ha
      rfl
    rw [flatR_inj (fun x hx => h1 x (by simp [hx])) (fun x hx => h2 x (by simp [hx])) hb]
theorem mem_at {l : List Rw} {r : Rw} (h : r ∈ l) : ∃ k, k < l.length ∧ at_ l k = r := by
  obtain ⟨k, hk, rfl⟩ := List.getElem_of_mem h
  exact ⟨k, hk, at_lt hk⟩

/-- right books have N rows of N numbers, each number from 0 to 2^50 -/
theorem right_rowed {c : Cf} {l : List Rw} (h : rightOk c l) {n : Nat} (hn : c.n = (n : Int)) : l.length = n ∧ Rowed n l := by
  have h1 := h.2.1
  refine ⟨by omega, fun r hr => ?_⟩
  obtain ⟨k, hk, rfl⟩ := mem_at hr
  have := (h.fits k hk).1
  omega
theorem right_small {c : Cf} {l : List Rw} (h : rightOk c l) : ∀ x ∈ flatR l, 0 ≤ x ∧ x ≤ 1125899906842624 := by
  intro x hx
  unfold flatR at hx
  rw [List.mem_flatMap] at hx
  obtain ⟨r, hr, hx⟩ := hx
  obtain ⟨k, hk, rfl⟩ := mem_at hr
  obtain ⟨h0, h1, h2, h3, h4, h5⟩ := h.fits k hk
  simp only [rowN, List.mem_cons] at hx
  rcases hx with rfl | rfl | hx
  · omega
  · omega
  · obtain ⟨j, hj, rfl⟩ := List.getElem_of_mem hx
    have := h5 j (by omega)
    rw [List.getElem?_eq_getElem hj] at this
    exact this

/-- bytes begin with right books -/
def Starts (c : Cf) (zs : List Int) (l : List Rw) (rest : List Int) : Prop := rightOk c l ∧ zs = booksB l ++ rest
theorem map_inj {P Q : List Int} (hP : ∀ x ∈ P, 0 ≤ x ∧ x < 18446744073709551616) (hQ : ∀ x ∈ Q, 0 ≤ x ∧ x < 18446744073709551616) (h : P.map u64n = Q.map u64n) : P = Q := by
  have key : ∀ {P : List Int}, (∀ x ∈ P, 0 ≤ x ∧ x < 18446744073709551616) → (P.map u64n).map (fun v : Nat => (v : Int)) = P := by
    intro P hP
    rw [List.map_map]
    conv => rhs; rw [← List.map_id P]
    apply List.map_congr_left
    intro x hx
    exact u64n_of (hP x hx).1 (hP x hx).2
  rw [← key hP, ← key hQ, h]
/-- books that were read off, of so many rows, are the right ones, if there are any -/
theorem Starts.same {c : Cf} {zs cur rest : List Int} {l L : List Rw} (h : Starts c zs l rest) {n : Nat} (hn : c.n = (n : Int)) (hL : L.length = n) (hR : Rowed n L) (hs : ∀ x ∈ flatR L, 0 ≤ x ∧ x < 18446744073709551616)
    (hz : zs = booksB L ++ cur) : l = L ∧ rest = cur := by
  obtain ⟨h1, h2⟩ := right_rowed h.1 hn
  have hlen : ((flatR L).map u64n).length = ((flatR l).map u64n).length := by rw [List.length_map, List.length_map, flatR_len hR, flatR_len h2, hL, h1]
  obtain ⟨Q', hq, hx⟩ := bytesN_prefix ((flatR L).map u64n) ((flatR l).map u64n) cur rest (by rw [← show zs = bytesN ((flatR L).map u64n) ++ cur from hz]; exact h.2) (Nat.le_of_eq hlen)
  have hq0 : Q' = [] := by
    have := congrArg List.length hq
    rw [List.length_append] at this
    exact List.eq_nil_of_length_eq_zero (by omega)
  subst hq0
  rw [List.append_nil] at hq
  refine ⟨flatR_inj h2 hR (map_inj (fun x hx => by have := right_small h.1 x hx; omega) hs hq), ?_⟩
  rw [hx]; simp [bytesN]
theorem Starts.unique {c : Cf} {zs rest rest' : List Int} {l l' : List Rw} (h : Starts c zs l rest) (h' : Starts c zs l' rest') : l = l' ∧ rest = rest' := by
  have hn : c.n = (c.n.toNat : Int) := by have := h.1.1.1; omega
  obtain ⟨h1, h2⟩ := right_rowed h'.1 hn
  exact h.same hn h1 h2 (fun x hx => by have := right_small h'.1 x hx; omega) h'.2

open Classical in
/-- the books with which bytes begin, and what is behind; or none -/
noncomputable def takeB (c : Cf) (zs : List Int) : Option (List Rw × List Int) := if h : ∃ x : List Rw × List Int, Starts c zs x.1 x.2 then some h.choose else none
theorem takeB_yes {c : Cf} {zs rest : List Int} {l : List Rw} (h : Starts c zs l rest) : takeB c zs = some (l, rest) := by
  have hex : ∃ x : List Rw × List Int, Starts c zs x.1 x.2 := ⟨(l, rest), h⟩
  unfold takeB
  rw [dif_pos hex]
  obtain ⟨e1, e2⟩ := h.unique hex.choose_spec
  rw [e1, e2]
theorem takeB_no {c : Cf} {zs : List Int} (h : ∀ l rest, ¬ Starts c zs l rest) : takeB c zs = none := by
  unfold takeB
  exact dif_neg fun ⟨x, hx⟩ => h _ _ hx
theorem takeB_cf {c : Cf} {zs : List Int} (h : ¬ cfOk c) : takeB c zs = none := takeB_no fun _ _ hs => h hs.1.1
/-- what follows so many numbers, of right books -/
theorem Starts.next {c : Cf} {zs cur rest : List Int} {l : List Rw} {P : List Nat} (h : Starts c zs l rest) {n : Nat} (hn : c.n = (n : Int)) (hz : zs = bytesN P ++ cur) (hP : P.length < n * (n + 2)) :
    ∃ (v : Nat) (Q : List Nat), v ≤ 1125899906842624 ∧ cur = PackMath.num v ++ (bytesN Q ++ rest) := by
  obtain ⟨h1, h2⟩ := right_rowed h.1 hn
  have hl : ((flatR l).map u64n).length = n * (n + 2) := by rw [List.length_map, flatR_len h2, h1]
  obtain ⟨Q', hq, hx⟩ := bytesN_prefix P ((flatR l).map u64n) cur rest (by rw [← hz]; exact h.2) (by omega)
  cases Q' with
  | nil =>
    have := congrArg List.length hq
    rw [List.append_nil] at this
    omega
  | cons v Q =>
    refine ⟨v, Q, ?_, by rw [hx, bytesN_cons, List.append_assoc]⟩
    have hv : v ∈ (flatR l).map u64n := by rw [hq]; simp
    obtain ⟨x, hxm, rfl⟩ := List.mem_map.1 hv
    have := right_small h.1 x hxm
    have := u64n_of this.1 (by omega)
    omega
theorem takeB_bare {c : Cf} {zs cur : List Int} {P : List Nat} {n : Nat} (hn : c.n = (n : Int)) (hz : zs = bytesN P ++ cur) (hP : P.length < n * (n + 2)) (hb : PackMath.Bare cur) : takeB c zs = none :=
  takeB_no fun _ _ hs => by
    obtain ⟨v, Q, hv, hc⟩ := hs.next hn hz hP
    exact hb v _ (by omega) hc
theorem takeB_big {c : Cf} {zs cur rest : List Int} {P : List Nat} {n v : Nat} (hn : c.n = (n : Int)) (hz : zs = bytesN P ++ cur) (hP : P.length < n * (n + 2)) (hb : PackMath.Begins cur v rest) (hv : 1125899906842624 < v) : takeB c zs = none :=
  takeB_no fun _ _ hs => by
    obtain ⟨v', Q, hv', hc⟩ := hs.next hn hz hP
    have := (hb.unique ⟨by omega, hc⟩).1
    omega
theorem takeB_end {c : Cf} {zs cur : List Int} {L : List Rw} {n : Nat} (hn : c.n = (n : Int)) (hL : L.length = n) (hR : Rowed n L) (hs : ∀ x ∈ flatR L, 0 ≤ x ∧ x < 18446744073709551616) (hz : zs = booksB L ++ cur) :
    takeB c zs = if rightOk c L then some (L, cur) else none := by
  by_cases h : rightOk c L
  · rw [if_pos h, takeB_yes ⟨h, hz⟩]
  · rw [if_neg h]
    refine takeB_no fun l rest hst => h ?_
    obtain ⟨rfl, _⟩ := hst.same hn hL hR hs hz
    exact hst.1
end Go.Proofs.Yteepjeaeljkkeaa
