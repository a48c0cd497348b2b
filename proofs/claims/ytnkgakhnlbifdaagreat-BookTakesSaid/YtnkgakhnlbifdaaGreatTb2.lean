/- Parts, as far as BookTakesCards reaches them, of: PaintMath, MailMath, BookMath, BookCells, RefRightsMay. No law is proved here. -/
import Derived.Test.YtnkgakhnlbifdaaGreatTb1
import Derived.Test.YtnkgakhnlbifdaaGreatTb0
import Derived.WalkKit
import Derived.ProofKit
import Derived.OpenShut
import Derived.WalkSpells
import Derived.Laws.AppendOwn
import Derived.Laws.AppendOwnNone
import Derived.Laws.OwnMore
import Derived.Lib.Hide
import Derived.Deep.Draws
import Derived.Deep.Slices
import Derived.Deep.Fields
import Derived.ChangeSame
import Derived.RegionTactic
import Derived.Maps.AppendAt
import Derived.Lib.SmallJoins
import Derived.WalkLawsBesides
import Derived.LoopTactic
import Derived.IntWalk
namespace Go.Proofs.YtnkgakhnlbifdaaGreat
open Go.RowKit
def u64n (x : Int) : Nat := (x % 18446744073709551616).toNat
theorem u64n_lt (x : Int) : u64n x < 18446744073709551616 := by unfold u64n; omega
theorem u64n_of {x : Int} (h0 : 0 ≤ x) (h1 : x < 18446744073709551616) : (u64n x : Int) = x := by unfold u64n; omega
theorem u64n_nat {v : Nat} (h : v < 18446744073709551616) : u64n (v : Int) = v := by unfold u64n; omega
def bytesN (ns : List Nat) : List Int := ns.flatMap PackMath.num
theorem bytesN_nil : bytesN [] = [] := rfl
theorem bytesN_cons (v : Nat) (ns : List Nat) : bytesN (v :: ns) = PackMath.num v ++ bytesN ns := rfl
theorem bytesN_append (P Q : List Nat) : bytesN (P ++ Q) = bytesN P ++ bytesN Q := by simp [bytesN]
theorem bytesN_one (v : Nat) : bytesN [v] = PackMath.num v := by simp [bytesN]
theorem bytesN_len {P : List Nat} (h : ∀ v ∈ P, v < 18446744073709551616) : (bytesN P).length ≤ 10 * P.length := by
 induction P with
 | nil => simp [bytesN]
 | cons v P ih =>
   rw [bytesN_cons, List.length_append, List.length_cons]
   have h1 := PackMath.num_len_64 v (h v (by simp))
   have h2 := ih fun x hx => h x (by simp [hx])
   omega
theorem bytesN_prefix : ∀ (P Q : List Nat) (x y : List Int), bytesN P ++ x = bytesN Q ++ y → P.length ≤ Q.length → ∃ Q', Q = P ++ Q' ∧ x = bytesN Q' ++ y
 | [], Q, x, y, h, _ => ⟨Q, rfl, by simpa [bytesN] using h⟩
 | v :: P, [], _, _, _, hl => absurd hl (by simp)
 | v :: P, u :: Q, x, y, h, hl => by
   rw [bytesN_cons, bytesN_cons, List.append_assoc, List.append_assoc] at h
   obtain ⟨rfl, h2⟩ := PackMath.num_prefix v u _ _ h
   obtain ⟨Q', rfl, hx⟩ := bytesN_prefix P Q x y h2 (by simpa using hl)
   exact ⟨Q', rfl, hx⟩
def rowN (r : Rw) : List Int := r.inc :: r.use :: r.out
def flatR (l : List Rw) : List Int := l.flatMap rowN
theorem flatR_append (a b : List Rw) : flatR (a ++ b) = flatR a ++ flatR b := by simp [flatR]
theorem flatR_one (r : Rw) : flatR [r] = rowN r := by simp [flatR]
def booksB (l : List Rw) : List Int := bytesN ((flatR l).map u64n)
theorem booksB_append (a b : List Rw) : booksB (a ++ b) = booksB a ++ booksB b := by simp [booksB, flatR_append, bytesN_append]
def Rowed (n : Nat) (l : List Rw) : Prop := ∀ r ∈ l, r.out.length = n
theorem flatR_len {n : Nat} {l : List Rw} (h : Rowed n l) : (flatR l).length = l.length * (n + 2) := by
 induction l with
 | nil => simp [flatR]
 | cons r l ih =>
   have h1 := h r (by simp)
   have h2 := ih fun x hx => h x (by simp [hx])
   show (rowN r ++ flatR l).length = _
   rw [List.length_append, h2, List.length_cons, Nat.succ_mul]
   simp [rowN, h1]
   omega
theorem flatR_inj {n : Nat} : ∀ {l l' : List Rw}, Rowed n l → Rowed n l' → flatR l = flatR l' → l = l'
 | [], [], _, _, _ => rfl
 | [], r :: l', _, _, h => by simp [flatR, rowN] at h
 | r :: l, [], _, _, h => by simp [flatR, rowN] at h
 | r :: l, r' :: l', h1, h2, h => by
   have e : rowN r ++ flatR l = rowN r' ++ flatR l' := h
   have hr := h1 r (by simp)
   have hr' := h2 r' (by simp)
   have hlen : (rowN r).length = (rowN r').length := by simp [rowN, hr, hr']
   obtain ⟨ha, hb⟩ := List.append_inj e hlen
   obtain rfl : r = r' := by
    obtain ⟨i, u, o⟩ := r
    obtain ⟨i', u', o'⟩ := r'
    simp only [rowN, List.cons.injEq] at ha
    obtain ⟨rfl, rfl, rfl⟩ := ha
    rfl
   rw [flatR_inj (fun x hx => h1 x (by simp [hx])) (fun x hx => h2 x (by simp [hx])) hb]
theorem mem_at {l : List Rw} {r : Rw} (h : r ∈ l) : ∃ k, k < l.length ∧ at_ l k = r := by
 obtain ⟨k, hk, rfl⟩ := List.getElem_of_mem h
 exact ⟨k, hk, at_lt hk⟩
theorem right_rowed {c : Cf} {l : List Rw} (h : rightOk c l) {n : Nat} (hn : c.n = (n : Int)) : l.length = n ∧ Rowed n l := by
 have h1 := h.2.1
 refine ⟨by omega, fun r hr => ?_⟩
 obtain ⟨k, hk, rfl⟩ := mem_at hr
 have := (h.fits k hk).1
 omega
theorem right_small {c : Cf} {l : List Rw} (h : rightOk c l) : ∀ x ∈ flatR l, 0 ≤ x ∧ x ≤ 1125899906842624 := by
 intro x hx
 unfold flatR at hx
 rw [List.mem_flatMap] at hx
 obtain ⟨r, hr, hx⟩ := hx
 obtain ⟨k, hk, rfl⟩ := mem_at hr
 obtain ⟨h0, h1, h2, h3, h4, h5⟩ := h.fits k hk
 simp only [rowN, List.mem_cons] at hx
 rcases hx with rfl | rfl | hx
 · omega
 · omega
 · obtain ⟨j, hj, rfl⟩ := List.getElem_of_mem hx
   have := h5 j (by omega)
   rw [List.getElem?_eq_getElem hj] at this
   exact this
def Starts (c : Cf) (zs : List Int) (l : List Rw) (rest : List Int) : Prop := rightOk c l ∧ zs = booksB l ++ rest
theorem map_inj {P Q : List Int} (hP : ∀ x ∈ P, 0 ≤ x ∧ x < 18446744073709551616) (hQ : ∀ x ∈ Q, 0 ≤ x ∧ x < 18446744073709551616) (h : P.map u64n = Q.map u64n) : P = Q := by
 have key : ∀ {P : List Int}, (∀ x ∈ P, 0 ≤ x ∧ x < 18446744073709551616) → (P.map u64n).map (fun v : Nat => (v : Int)) = P := by
  intro P hP
  rw [List.map_map]
  conv => rhs; rw [← List.map_id P]
  apply List.map_congr_left
  intro x hx
  exact u64n_of (hP x hx).1 (hP x hx).2
 rw [← key hP, ← key hQ, h]
theorem Starts.same {c : Cf} {zs cur rest : List Int} {l L : List Rw} (h : Starts c zs l rest) {n : Nat} (hn : c.n = (n : Int)) (hL : L.length = n) (hR : Rowed n L) (hs : ∀ x ∈ flatR L, 0 ≤ x ∧ x < 18446744073709551616)
 (hz : zs = booksB L ++ cur) : l = L ∧ rest = cur := by
 obtain ⟨h1, h2⟩ := right_rowed h.1 hn
 have hlen : ((flatR L).map u64n).length = ((flatR l).map u64n).length := by rw [List.length_map, List.length_map, flatR_len hR, flatR_len h2, hL, h1]
 obtain ⟨Q', hq, hx⟩ := bytesN_prefix ((flatR L).map u64n) ((flatR l).map u64n) cur rest (by rw [← show zs = bytesN ((flatR L).map u64n) ++ cur from hz]; exact h.2) (Nat.le_of_eq hlen)
 have hq0 : Q' = [] := by
  have := congrArg List.length hq
  rw [List.length_append] at this
  exact List.eq_nil_of_length_eq_zero (by omega)
 subst hq0
 rw [List.append_nil] at hq
 refine ⟨flatR_inj h2 hR (map_inj (fun x hx => by have := right_small h.1 x hx; omega) hs hq), ?_⟩
 rw [hx]; simp [bytesN]
theorem Starts.unique {c : Cf} {zs rest rest' : List Int} {l l' : List Rw} (h : Starts c zs l rest) (h' : Starts c zs l' rest') : l = l' ∧ rest = rest' := by
 have hn : c.n = (c.n.toNat : Int) := by have := h.1.1.1; omega
 obtain ⟨h1, h2⟩ := right_rowed h'.1 hn
 exact h.same hn h1 h2 (fun x hx => by have := right_small h'.1 x hx; omega) h'.2
open Classical in
noncomputable def takeB (c : Cf) (zs : List Int) : Option (List Rw × List Int) := if h : ∃ x : List Rw × List Int, Starts c zs x.1 x.2 then some h.choose else none
theorem takeB_yes {c : Cf} {zs rest : List Int} {l : List Rw} (h : Starts c zs l rest) : takeB c zs = some (l, rest) := by
 have hex : ∃ x : List Rw × List Int, Starts c zs x.1 x.2 := ⟨(l, rest), h⟩
 unfold takeB
 rw [dif_pos hex]
 obtain ⟨e1, e2⟩ := h.unique hex.choose_spec
 rw [e1, e2]
theorem takeB_no {c : Cf} {zs : List Int} (h : ∀ l rest, ¬ Starts c zs l rest) : takeB c zs = none := by
 unfold takeB
 exact dif_neg fun ⟨x, hx⟩ => h _ _ hx
theorem takeB_cf {c : Cf} {zs : List Int} (h : ¬ cfOk c) : takeB c zs = none := takeB_no fun _ _ hs => h hs.1.1
theorem Starts.next {c : Cf} {zs cur rest : List Int} {l : List Rw} {P : List Nat} (h : Starts c zs l rest) {n : Nat} (hn : c.n = (n : Int)) (hz : zs = bytesN P ++ cur) (hP : P.length < n * (n + 2)) :
 ∃ (v : Nat) (Q : List Nat), v ≤ 1125899906842624 ∧ cur = PackMath.num v ++ (bytesN Q ++ rest) := by
 obtain ⟨h1, h2⟩ := right_rowed h.1 hn
 have hl : ((flatR l).map u64n).length = n * (n + 2) := by rw [List.length_map, flatR_len h2, h1]
 obtain ⟨Q', hq, hx⟩ := bytesN_prefix P ((flatR l).map u64n) cur rest (by rw [← hz]; exact h.2) (by omega)
 cases Q' with
 | nil =>
   have := congrArg List.length hq
   rw [List.append_nil] at this
   omega
 | cons v Q =>
   refine ⟨v, Q, ?_, by rw [hx, bytesN_cons, List.append_assoc]⟩
   have hv : v ∈ (flatR l).map u64n := by rw [hq]; simp
   obtain ⟨x, hxm, rfl⟩ := List.mem_map.1 hv
   have := right_small h.1 x hxm
   have := u64n_of this.1 (by omega)
   omega
theorem takeB_bare {c : Cf} {zs cur : List Int} {P : List Nat} {n : Nat} (hn : c.n = (n : Int)) (hz : zs = bytesN P ++ cur) (hP : P.length < n * (n + 2)) (hb : PackMath.Bare cur) : takeB c zs = none :=
 takeB_no fun _ _ hs => by
  obtain ⟨v, Q, hv, hc⟩ := hs.next hn hz hP
  exact hb v _ (by omega) hc
theorem takeB_big {c : Cf} {zs cur rest : List Int} {P : List Nat} {n v : Nat} (hn : c.n = (n : Int)) (hz : zs = bytesN P ++ cur) (hP : P.length < n * (n + 2)) (hb : PackMath.Begins cur v rest) (hv : 1125899906842624 < v) : takeB c zs = none :=
 takeB_no fun _ _ hs => by
  obtain ⟨v', Q, hv', hc⟩ := hs.next hn hz hP
  have := (hb.unique ⟨by omega, hc⟩).1
  omega
theorem takeB_end {c : Cf} {zs cur : List Int} {L : List Rw} {n : Nat} (hn : c.n = (n : Int)) (hL : L.length = n) (hR : Rowed n L) (hs : ∀ x ∈ flatR L, 0 ≤ x ∧ x < 18446744073709551616) (hz : zs = booksB L ++ cur) :
 takeB c zs = if rightOk c L then some (L, cur) else none := by
 by_cases h : rightOk c L
 · rw [if_pos h, takeB_yes ⟨h, hz⟩]
 · rw [if_neg h]
   refine takeB_no fun l rest hst => h ?_
   obtain ⟨rfl, _⟩ := hst.same hn hL hR hs hz
   exact hst.1
end Go.Proofs.YtnkgakhnlbifdaaGreat
namespace Go.Proofs.YtnkgakhnlbifdaaGreat
open Go.RowKit
def SomeN (n : Nat) (zs : List Int) (ns : List Nat) (rest : List Int) : Prop := ns.length = n ∧ (∀ v ∈ ns, v ≤ 4611686018427387903) ∧ zs = bytesN ns ++ rest
theorem SomeN.unique {n : Nat} {zs rest rest' : List Int} {ns ns' : List Nat} (h : SomeN n zs ns rest) (h' : SomeN n zs ns' rest') : ns = ns' ∧ rest = rest' := by
 obtain ⟨Q, hQ, hr⟩ := bytesN_prefix ns ns' rest rest' (by rw [← h.2.2, ← h'.2.2]) (by rw [h.1, h'.1]; exact Nat.le_refl _)
 have hQ0 : Q = [] := by
  have := congrArg List.length hQ
  rw [List.length_append, h.1, h'.1] at this
  exact List.eq_nil_of_length_eq_zero (by omega)
 subst hQ0
 rw [List.append_nil] at hQ
 exact ⟨hQ.symm, by rw [hr]; simp [bytesN]⟩
open Classical in
noncomputable def someN (n : Nat) (zs : List Int) : Option (List Nat × List Int) := if h : ∃ x : List Nat × List Int, SomeN n zs x.1 x.2 then some h.choose else none
theorem someN_yes {n : Nat} {zs rest : List Int} {ns : List Nat} (h : SomeN n zs ns rest) : someN n zs = some (ns, rest) := by
 have hex : ∃ x : List Nat × List Int, SomeN n zs x.1 x.2 := ⟨(ns, rest), h⟩
 unfold someN
 rw [dif_pos hex]
 obtain ⟨e1, e2⟩ := hex.choose_spec.unique h
 rw [← e1, ← e2]
theorem someN_no {n : Nat} {zs : List Int} (h : ∀ ns rest, ¬ SomeN n zs ns rest) : someN n zs = none := by
 unfold someN
 exact dif_neg fun ⟨x, hx⟩ => h _ _ hx
theorem someN_some {n : Nat} {zs rest : List Int} {ns : List Nat} (h : someN n zs = some (ns, rest)) : SomeN n zs ns rest := by
 unfold someN at h
 split at h
 · rename_i hex
   have e := Option.some.inj h
   have := hex.choose_spec
   rw [e] at this
   exact this
 · cases h
theorem someN_none {n : Nat} {zs : List Int} (h : someN n zs = none) (ns : List Nat) (rest : List Int) : ¬ SomeN n zs ns rest := fun hs => by
 rw [someN_yes hs] at h; cases h
end Go.Proofs.YtnkgakhnlbifdaaGreat
namespace Go.Proofs.YtnkgakhnlbifdaaGreat
open Go.RowKit
def oneI (b : Bool) : Int := if b then 1 else 0
def pairN (l : List Rq) : List Int := l.flatMap fun q => [q.t, q.m]
def noteN (x : Nt) : List Int := [x.clk, x.t, x.a, x.m, x.asks, x.try_, x.ph]
def notesN (l : List Nt) : List Int := l.flatMap noteN
def tripN (a : Au) : List Int := (List.range a.told.length).flatMap fun i => [oneI (a.told[i]?.getD false), a.use[i]?.getD 0, a.inc[i]?.getD 0]
def auN (a : Au) : List Int := [a.try_, a.ph] ++ if a = au0 then [] else tripN a ++ [oneI a.moved]
def restN (x : Bk) : List Int := ((x.line.length : Int) :: pairN x.line) ++ (((x.outs.length : Int) :: pairN x.outs) ++ (x.asks :: (notesN x.notes ++ auN x.au)))
def allK (x : Bk) : List Int := x.clk :: (flatR x.rows ++ restN x)
def bookBytes (x : Bk) : List Int := bytesN ((allK x).map u64n)
theorem bookBytes_parts (x : Bk) : bookBytes x = bytesN [u64n x.clk] ++ (booksB x.rows ++ bytesN ((restN x).map u64n)) := by
 unfold bookBytes allK booksB
 rw [List.map_cons, List.map_append, ← List.singleton_append, bytesN_append, bytesN_append]
theorem pairN_len (l : List Rq) : (pairN l).length = 2 * l.length := by
 induction l with
 | nil => rfl
 | cons q l ih =>
   show ([q.t, q.m] ++ pairN l).length = _
   rw [List.length_append, ih, List.length_cons]
   simp; omega
theorem notesN_len (l : List Nt) : (notesN l).length = 7 * l.length := by
 induction l with
 | nil => rfl
 | cons q l ih =>
   show (noteN q ++ notesN l).length = _
   rw [List.length_append, ih, List.length_cons]
   simp [noteN]; omega
theorem trip_len (k : Nat) (f : Nat → List Int) (h : ∀ i, (f i).length = 3) : ((List.range k).flatMap f).length = 3 * k := by
 induction k with
 | zero => rfl
 | succ k ih =>
   rw [List.range_succ, List.flatMap_append, List.length_append, ih, List.flatMap_singleton, h]
   omega
theorem tripN_len (a : Au) : (tripN a).length = 3 * a.told.length := trip_len _ _ fun _ => rfl
theorem pairN_inj {who : Int} : ∀ {l l' : List Rq}, (∀ q ∈ l, q.a = who) → (∀ q ∈ l', q.a = who) → pairN l = pairN l' → l = l'
 | [], [], _, _, _ => rfl
 | [], q :: l, _, _, h => by simp [pairN] at h
 | q :: l, [], _, _, h => by simp [pairN] at h
 | ⟨t, a, m⟩ :: l, ⟨t', a', m'⟩ :: l', h1, h2, h => by
   have e : [t, m] ++ pairN l = [t', m'] ++ pairN l' := h
   simp only [List.cons_append, List.nil_append, List.cons.injEq] at e
   obtain ⟨rfl, rfl, e⟩ := e
   have ha : a = who := h1 _ (List.mem_cons_self ..)
   have ha' : a' = who := h2 _ (List.mem_cons_self ..)
   rw [pairN_inj (fun q hq => h1 q (List.mem_cons_of_mem _ hq)) (fun q hq => h2 q (List.mem_cons_of_mem _ hq)) e, ha, ha']
theorem notesN_inj : ∀ {l l' : List Nt}, notesN l = notesN l' → l = l'
 | [], [], _ => rfl
 | [], q :: l, h => by simp [notesN, noteN] at h
 | q :: l, [], h => by simp [notesN, noteN] at h
 | ⟨k, t, a, m, s, tr, p⟩ :: l, ⟨k', t', a', m', s', tr', p'⟩ :: l', h => by
   have e : [k, t, a, m, s, tr, p] ++ notesN l = [k', t', a', m', s', tr', p'] ++ notesN l' := h
   simp only [List.cons_append, List.nil_append, List.cons.injEq] at e
   obtain ⟨rfl, rfl, rfl, rfl, rfl, rfl, rfl, e⟩ := e
   rw [notesN_inj e]
theorem oneI_inj {a b : Bool} (h : oneI a = oneI b) : a = b := by cases a <;> cases b <;> simp_all [oneI]
theorem trip_at {k : Nat} {f : Nat → List Int} (h3 : ∀ i, (f i).length = 3) {i j : Nat} (hi : i < k) (hj : j < 3) : ((List.range k).flatMap f)[3 * i + j]? = (f i)[j]? := by
 induction k with
 | zero => omega
 | succ k ih =>
   rw [List.range_succ, List.flatMap_append]
   by_cases h : i < k
   · rw [List.getElem?_append_left (by rw [trip_len _ _ h3]; omega), ih h]
   · obtain rfl : i = k := by omega
     rw [List.getElem?_append_right (by rw [trip_len _ _ h3]; omega), trip_len _ _ h3, List.flatMap_singleton]
     congr 1
     omega
theorem tripN_inj {a b : Au} (h1 : a.told.length = b.told.length) (hu : a.use.length = a.told.length) (hi : a.inc.length = a.told.length) (hu' : b.use.length = b.told.length) (hi' : b.inc.length = b.told.length) (h : tripN a = tripN b) :
 a.told = b.told ∧ a.use = b.use ∧ a.inc = b.inc := by
 have key : ∀ i, i < a.told.length → a.told[i]?.getD false = b.told[i]?.getD false ∧ a.use[i]?.getD 0 = b.use[i]?.getD 0 ∧ a.inc[i]?.getD 0 = b.inc[i]?.getD 0 := fun i hlt => by
  have g : ∀ j, j < 3 → ([oneI (a.told[i]?.getD false), a.use[i]?.getD 0, a.inc[i]?.getD 0] : List Int)[j]? = [oneI (b.told[i]?.getD false), b.use[i]?.getD 0, b.inc[i]?.getD 0][j]? := fun j hj => by
   have e1 := trip_at (k := a.told.length) (f := fun i => [oneI (a.told[i]?.getD false), a.use[i]?.getD 0, a.inc[i]?.getD 0]) (fun _ => rfl) hlt hj
   have e2 := trip_at (k := b.told.length) (f := fun i => [oneI (b.told[i]?.getD false), b.use[i]?.getD 0, b.inc[i]?.getD 0]) (fun _ => rfl) (i := i) (by omega) hj
   rw [← e1, ← e2]
   exact congrArg (·[3 * i + j]?) h
  have g0 := g 0 (by decide); have g1 := g 1 (by decide); have g2 := g 2 (by decide)
  simp only [List.getElem?_cons_zero, List.getElem?_cons_succ, Option.some.injEq] at g0 g1 g2
  exact ⟨oneI_inj g0, g1, g2⟩
 have ext : ∀ {α : Type} {k l : List α} (z : α), k.length = l.length → (∀ i, i < k.length → k[i]?.getD z = l[i]?.getD z) → k = l := fun {α k l} z h h2 => by
  refine List.ext_getElem h fun i hi hj => ?_
  have := h2 i hi
  simpa [List.getElem?_eq_getElem hi, List.getElem?_eq_getElem hj] using this
 exact ⟨ext false h1 fun i hi => (key i hi).1, ext 0 (by omega) fun i hi => (key i (by omega)).2.1, ext 0 (by omega) fun i hi => (key i (by omega)).2.2⟩
def IsBook (c : Cf) (who : Int) (zs : List Int) (x : Bk) : Prop := bookOk c who x ∧ zs = bookBytes x
theorem au_two {c : Cf} {who : Int} {a : Au} (h : auOk c who a) (ht : a.try_ = 0) : a = au0 := by
 rcases h.2.2 with h | h
 · exact h
 · have := h.1.1; omega
theorem bk_ext {c : Cf} {who : Int} {x y : Bk} {R : List Int} (hx : bookOk c who x) (hy : bookOk c who y) (h : allK x ++ R = allK y) : x = y ∧ R = [] := by
 have hn : c.n = (c.n.toNat : Int) := by have := hx.1.1.1; omega
 obtain ⟨h1, h2⟩ := right_rowed hx.1 hn
 obtain ⟨h3, h4⟩ := right_rowed hy.1 hn
 obtain ⟨clk, rows, line, outs, asks, notes, au⟩ := x
 obtain ⟨clk', rows', line', outs', asks', notes', au'⟩ := y
 unfold allK restN auN at h
 simp only [List.cons_append, List.append_assoc, List.nil_append, List.cons.injEq] at h
 obtain ⟨rfl, h⟩ := h
 obtain ⟨e1, e⟩ := List.append_inj h (by rw [flatR_len h2, flatR_len h4, h1, h3])
 obtain rfl : rows = rows' := flatR_inj h2 h4 e1
 clear h
 simp only [List.cons.injEq] at e
 obtain ⟨el, e⟩ := e
 have el' : line.length = line'.length := by omega
 obtain ⟨e2, ea⟩ := List.append_inj e (by rw [pairN_len, pairN_len, el'])
 clear e
 have hwl : ∀ {c : Cf} {who : Int} {l : List Rq}, lineOk c who l → ∀ q ∈ l, q.a = who := fun {c who l} hl q hq => by
  obtain ⟨i, hi, rfl⟩ := List.getElem_of_mem hq
  have := (oneB_iff.1 (hl.2.2.2 i hi).1).2.1
  rwa [show rqAt l i = l[i] by unfold rqAt; rw [List.getElem?_eq_getElem hi]; rfl] at this
 obtain rfl : line = line' := pairN_inj (hwl hx.2.2.2.1) (hwl hy.2.2.2.1) e2
 simp only [List.cons.injEq] at ea
 obtain ⟨eo, ea⟩ := ea
 have eo' : outs.length = outs'.length := by omega
 obtain ⟨e3, eb⟩ := List.append_inj ea (by rw [pairN_len, pairN_len, eo'])
 clear ea
 have hwo : ∀ {c : Cf} {who clk : Int} {l : List Rq}, (∀ i, i < l.length → outB c who clk (rqAt l i) = true) → ∀ q ∈ l, q.a = who := fun {c who clk l} hl q hq => by
  obtain ⟨i, hi, rfl⟩ := List.getElem_of_mem hq
  have := hl i hi
  unfold outB at this
  rw [Bool.and_eq_true, Bool.and_eq_true, decide_eq_true_eq] at this
  have := this.2.1.1
  rwa [show rqAt l i = l[i] by unfold rqAt; rw [List.getElem?_eq_getElem hi]; rfl] at this
 obtain rfl : outs = outs' := pairN_inj (hwo hx.2.2.2.2.2.2.1) (hwo hy.2.2.2.2.2.2.1) e3
 simp only [List.cons.injEq] at eb
 obtain ⟨rfl, eb⟩ := eb
 have hnl : notes.length = notes'.length := by have := hx.2.2.2.2.2.2.2.2.1.2.2.1; have := hy.2.2.2.2.2.2.2.2.1.2.2.1; simp only at *; omega
 obtain ⟨e4, ec⟩ := List.append_inj eb (by rw [notesN_len, notesN_len, hnl])
 clear eb
 obtain rfl : notes = notes' := notesN_inj e4
 have ha : auOk c who au := hx.2.2.2.2.2.2.2.2.2
 have hb : auOk c who au' := hy.2.2.2.2.2.2.2.2.2
 simp only [List.cons.injEq] at ec
 obtain ⟨et, ep, ed⟩ := ec
 have hau : au = au' ∧ R = [] := by
  by_cases h0 : au.try_ = 0
  · have g1 := au_two ha h0
    have g2 := au_two hb (by rw [← et]; exact h0)
    rw [if_pos g1, if_pos g2] at ed
    exact ⟨by rw [g1, g2], by simpa using ed⟩
  · have hra : runsOk c who au := ha.2.2.resolve_left fun e => h0 (by rw [e])
    have hrb : runsOk c who au' := hb.2.2.resolve_left fun e => h0 (by rw [et, e])
    rw [if_neg (fun e => h0 (by rw [e])), if_neg (fun e => h0 (by rw [et, e]))] at ed
    obtain ⟨q1, q2, q3, q4, q5, q6, q7⟩ := hra
    obtain ⟨r1, r2, r3, r4, r5, r6, r7⟩ := hrb
    rw [List.append_assoc] at ed
    obtain ⟨e5, e6⟩ := List.append_inj ed (by rw [tripN_len, tripN_len]; omega)
    obtain ⟨f1, f2, f3⟩ := tripN_inj (by omega) (by omega) (by omega) (by omega) (by omega) e5
    simp only [List.cons_append, List.nil_append, List.cons.injEq] at e6
    have f4 := oneI_inj e6.1
    obtain ⟨t, p, to, u, i, m⟩ := au
    obtain ⟨t', p', to', u', i', m'⟩ := au'
    simp only at et ep f1 f2 f3 f4
    subst et ep f1 f2 f3 f4
    exact ⟨rfl, e6.2⟩
 rw [hau.1]
 exact ⟨rfl, hau.2⟩
theorem book_small {c : Cf} {who : Int} {x : Bk} (h : bookOk c who x) : ∀ v ∈ allK x, 0 ≤ v ∧ v ≤ 1125899906842624 := by
 obtain ⟨hr, hw, hk, hl, ⟨ho, ha⟩, _, hout, _, hn, hu⟩ := h
 have hc := hr.1
 unfold cfOk at hc
 intro v hv
 unfold allK restN at hv
 simp only [List.mem_cons, List.mem_append] at hv
 rcases hv with rfl | hv | (rfl | hv) | (rfl | hv) | rfl | hv | hv
 · omega
 · exact right_small hr v hv
 · have := hl.2.2.1; omega
 · obtain ⟨q, hq, hv⟩ := List.mem_flatMap.1 hv
   obtain ⟨i, hi, rfl⟩ := List.getElem_of_mem hq
   have h1 := oneB_iff.1 (hl.2.2.2 i hi).1
   rw [show rqAt x.line i = x.line[i] by unfold rqAt; rw [List.getElem?_eq_getElem hi]; rfl] at h1
   unfold oneOk at h1
   simp only [List.mem_cons, List.not_mem_nil, or_false] at hv
   rcases hv with rfl | rfl <;> omega
 · omega
 · obtain ⟨q, hq, hv⟩ := List.mem_flatMap.1 hv
   obtain ⟨i, hi, rfl⟩ := List.getElem_of_mem hq
   have h1 := hout i hi
   rw [show rqAt x.outs i = x.outs[i] by unfold rqAt; rw [List.getElem?_eq_getElem hi]; rfl] at h1
   unfold outB mayB at h1
   simp only [Bool.and_eq_true, decide_eq_true_eq] at h1
   simp only [List.mem_cons, List.not_mem_nil, or_false] at hv
   rcases hv with rfl | rfl <;> omega
 · omega
 · obtain ⟨q, hq, hv⟩ := List.mem_flatMap.1 hv
   obtain ⟨i, hi, rfl⟩ := List.getElem_of_mem hq
   have h1 := (hn.2.2.2 i hi).1
   rw [show ntAt x.notes i = x.notes[i] by unfold ntAt; rw [List.getElem?_eq_getElem hi]; rfl] at h1
   have hin : (i : Int) < c.n := by have := hn.2.2.1; omega
   generalize x.notes[i] = z at h1 hv
   unfold noteB at h1
   rw [Bool.and_eq_true, Bool.and_eq_true, Bool.and_eq_true, Bool.or_eq_true, decide_eq_true_eq, decide_eq_true_eq] at h1
   obtain ⟨hclk, hhead, hasks, hlook⟩ := h1
   have hlk := of_decide_eq_true hlook
   unfold lookOk at hlk
   have hh : 0 ≤ z.t ∧ z.t ≤ 1125899906842624 ∧ 0 ≤ z.a ∧ z.a ≤ 1125899906842624 ∧ 0 ≤ z.m ∧ z.m ≤ 1125899906842624 := by
    rcases hhead with hh | hh
    · have := of_decide_eq_true hh; omega
    · unfold hasHead at hh
      rw [Bool.and_eq_true, decide_eq_true_eq] at hh
      have h1 := of_decide_eq_true hh.1
      have h2 := hh.2
      omega
   unfold noteN at hv
   simp only [List.mem_cons, List.not_mem_nil, or_false] at hv
   rcases hv with rfl | rfl | rfl | rfl | rfl | rfl | rfl <;> omega
 · unfold auN at hv
   by_cases h0 : x.au = au0
   · rw [if_pos h0, h0] at hv
     simp only [List.append_nil, List.mem_cons, List.not_mem_nil, or_false] at hv
     rcases hv with rfl | rfl <;> decide
   · rw [if_neg h0] at hv
     have hrun := hu.2.2.resolve_left h0
     obtain ⟨q1, q2, q3, q4, q5, q6, q7⟩ := hrun
     have hone : ∀ b, 0 ≤ oneI b ∧ oneI b ≤ 1125899906842624 := fun b => by cases b <;> decide
     simp only [List.cons_append, List.nil_append, List.mem_cons, List.mem_append, List.not_mem_nil, or_false] at hv
     rcases hv with rfl | rfl | hv | rfl
     · omega
     · omega
     · obtain ⟨i, hi, hv⟩ := List.mem_flatMap.1 hv
       have hi := List.mem_range.1 hi
       have := q7 i hi
       simp only [List.mem_cons, List.not_mem_nil, or_false] at hv
       rcases hv with rfl | rfl | rfl
       · exact hone _
       · omega
       · omega
     · exact hone _
theorem book_unique {c : Cf} {who : Int} {x y : Bk} (hx : bookOk c who x) (hy : bookOk c who y) {r r' : List Int} (h : bookBytes x ++ r = bookBytes y ++ r') : x = y ∧ r = r' := by
 have key : ∀ {x y : Bk} {r r' : List Int}, bookOk c who x → bookOk c who y → bookBytes x ++ r = bookBytes y ++ r' → (allK x).length ≤ (allK y).length → x = y ∧ r = r' := fun {x y r r'} hx hy h hl => by
  obtain ⟨Q, hQ, hr⟩ := bytesN_prefix ((allK x).map u64n) ((allK y).map u64n) r r' h (by rw [List.length_map, List.length_map]; exact hl)
  have hlen := congrArg List.length hQ
  rw [List.length_map, List.length_append, List.length_map] at hlen
  have e : (allK x) ++ (allK y).drop (allK x).length = allK y := by
   have ht : (allK y).take (allK x).length = allK x := by
    refine (map_inj (fun v hv => by have := book_small hx v hv; omega) (fun v hv => by have := book_small hy v (List.mem_of_mem_take hv); omega) ?_).symm
    rw [List.map_take, hQ, List.take_left' (by rw [List.length_map])]
   conv => lhs; lhs; rw [← ht]
   exact List.take_append_drop _ _
  obtain ⟨h1, h2⟩ := bk_ext hx hy e
  subst h1
  have hQ0 : Q = [] := List.eq_nil_of_length_eq_zero (by omega)
  subst hQ0
  exact ⟨rfl, by rw [hr]; simp [bytesN]⟩
 by_cases hl : (allK x).length ≤ (allK y).length
 · exact key hx hy h hl
 · obtain ⟨h1, h2⟩ := key hy hx h.symm (by omega)
   exact ⟨h1.symm, h2.symm⟩
open Classical in
noncomputable def takeK (c : Cf) (who : Int) (zs : List Int) : Option Bk := if h : ∃ x, IsBook c who zs x then some h.choose else none
theorem IsBook.unique {c : Cf} {who : Int} {zs : List Int} {x y : Bk} (hx : IsBook c who zs x) (hy : IsBook c who zs y) : x = y :=
 (book_unique hx.1 hy.1 (r := []) (r' := []) (by rw [List.append_nil, List.append_nil, ← hx.2, ← hy.2])).1
theorem takeK_yes {c : Cf} {who : Int} {zs : List Int} {x : Bk} (h : IsBook c who zs x) : takeK c who zs = some x := by
 have hex : ∃ x, IsBook c who zs x := ⟨x, h⟩
 unfold takeK
 rw [dif_pos hex, hex.choose_spec.unique h]
theorem takeK_no {c : Cf} {who : Int} {zs : List Int} (h : ∀ x, ¬ IsBook c who zs x) : takeK c who zs = none := by
 unfold takeK
 exact dif_neg fun ⟨x, hx⟩ => h _ hx
theorem takeK_behind {c : Cf} {who : Int} {x : Bk} {r : List Int} (h : bookOk c who x) (hr : r ≠ []) : takeK c who (bookBytes x ++ r) = none := takeK_no fun y hy =>
 hr (book_unique h hy.1 (r := r) (r' := []) (by rw [List.append_nil]; exact hy.2)).2
end Go.Proofs.YtnkgakhnlbifdaaGreat
namespace Go.Proofs.YtnkgakhnlbifdaaGreat
open Go.RowKit
theorem bk_cells {w : World} {g : Nat} {x : Bk} {rv lv ov nv tv uv iv : Value} (h : Whole w g 37 (bkCells x rv lv ov nv tv uv iv)) :
 (w.cell? ⟨g, 0, none⟩ = some (.int .i64 x.clk) ∧ w.cell? ⟨g, 1, none⟩ = some rv ∧ w.cell? ⟨g, 2, none⟩ = some lv ∧ w.cell? ⟨g, 3, none⟩ = some ov) ∧
 (w.cell? ⟨g, 4, none⟩ = some (.int .i64 x.asks) ∧ w.cell? ⟨g, 5, none⟩ = some nv ∧ w.cell? ⟨g, 6, none⟩ = some (.int .i64 x.au.try_) ∧ w.cell? ⟨g, 7, none⟩ = some (.int .i64 x.au.ph)) ∧
 (w.cell? ⟨g, 8, none⟩ = some tv ∧ w.cell? ⟨g, 9, none⟩ = some uv ∧ w.cell? ⟨g, 10, none⟩ = some iv ∧ w.cell? ⟨g, 11, none⟩ = some (.bool x.au.moved)) :=
 ⟨⟨h.cell 0, h.cell 1, h.cell 2, h.cell 3⟩, ⟨h.cell 4, h.cell 5, h.cell 6, h.cell 7⟩, h.cell 8, h.cell 9, h.cell 10, h.cell 11⟩
end Go.Proofs.YtnkgakhnlbifdaaGreat
namespace Go.Proofs.YtnkgakhnlbifdaaGreat
open Go.RowKit
set_option maxRecDepth 100000 in
set_option maxHeartbeats 4000000 in
theorem refcfg_no (n q r p k c : Int) (w : World) (h : n < 1 ∨ 16 < n ∨ q < 1 ∨ 8 < q ∨ r < 0 ∨ 8 < r ∨ p < 1 ∨ 16 < p ∨ k < 0 ∨ c < 0) : Calls Tryz.prog 22 #[cfV ⟨n, q, r, p, k, c⟩] w (Says w false) := by
 by_cases h1 : n < 1
 · clear h
   go_enter Tryz.func22, Tryz.ntmps22
   go_wp2
   go_ret
   exact ⟨rfl, below_box _ _⟩
 by_cases h2 : 16 < n
 · clear h
   go_enter Tryz.func22, Tryz.ntmps22
   go_wp2
   go_ret
   exact ⟨rfl, below_box _ _⟩
 by_cases h3 : q < 1
 · clear h
   go_enter Tryz.func22, Tryz.ntmps22
   go_wp2
   go_ret
   exact ⟨rfl, below_box _ _⟩
 by_cases h4 : 8 < q
 · clear h
   go_enter Tryz.func22, Tryz.ntmps22
   go_wp2
   go_ret
   exact ⟨rfl, below_box _ _⟩
 by_cases h5 : r < 0
 · clear h
   go_enter Tryz.func22, Tryz.ntmps22
   go_wp2
   go_ret
   exact ⟨rfl, below_box _ _⟩
 by_cases h6 : 8 < r
 · clear h
   go_enter Tryz.func22, Tryz.ntmps22
   go_wp2
   go_ret
   exact ⟨rfl, below_box _ _⟩
 by_cases h7 : p < 1
 · clear h
   go_enter Tryz.func22, Tryz.ntmps22
   go_wp2
   go_ret
   exact ⟨rfl, below_box _ _⟩
 by_cases h8 : 16 < p
 · clear h
   go_enter Tryz.func22, Tryz.ntmps22
   go_wp2
   go_ret
   exact ⟨rfl, below_box _ _⟩
 by_cases h9 : k < 0
 · clear h
   go_enter Tryz.func22, Tryz.ntmps22
   go_wp2
   go_ret
   exact ⟨rfl, below_box _ _⟩
 by_cases h10 : c < 0
 · clear h
   go_enter Tryz.func22, Tryz.ntmps22
   go_wp2
   go_ret
   exact ⟨rfl, below_box _ _⟩
 omega
set_option maxRecDepth 100000 in
set_option maxHeartbeats 1000000 in
theorem refcfg_loop (n q r p k c : Int) (w : World) (h1 : 1 ≤ n) (h2 : n ≤ 16) (h3 : 1 ≤ q) (h4 : q ≤ 8) (h5 : 0 ≤ r) (h6 : r ≤ 8) (h7 : 1 ≤ p) (h8 : p ≤ 16) (h9 : 0 ≤ k) (h10 : 0 ≤ c) :
 Calls Tryz.prog 22 #[cfV ⟨n, q, r, p, k, c⟩] w (Says w (cfB ⟨n, q, r, p, k, c⟩)) := by
 obtain ⟨b, Hbb⟩ : ∃ b, Hid (cfB ⟨n, q, r, p, k, c⟩ = b) := ⟨_, rfl⟩
 rw [Hbb.out]
 go_enter Tryz.func22, Tryz.ntmps22
 go_wp2
 go_loop [3, 4] (fun l i => ∃ (j : Nat) (L : Int), (j : Int) ≤ n ∧ i = .int .i64 j ∧ l = .int .i64 L ∧ 0 ≤ L ∧ L ≤ 1099511627776 ∧ Hid (L = 1099511627776 - (j : Int) * c)) (fun _ i => (n - intOf i).toNat)
 case atStart => exact ⟨0, 1099511627776, by omega, rfl, rfl, by omega, by omega, show _ = _ by simp⟩
 case round =>
  obtain ⟨j, L, hj, rfl, rfl, hL0, hL1, HL⟩ := hrel
  by_cases hlt : (j : Int) < n
  · by_cases hc : L < c
    · obtain rfl : b = false := by
       refine Hbb.out.symm.trans (cfB_no fun h => ?_)
       have h11 := h.2.2.2.2.2.2.2.2.2.2
       have h12 := mul_step (k := (j : Int)) hlt h10
       have h13 := HL.out
       simp only at h11
       omega
      go_wp2
      go_ret
      exact ⟨rfl, below_box _ _⟩
    · have hs := mul_succ' j c
      have Hs := Lib.hid hs; clear hs
      go_wp2
      go_round
      case rel => exact ⟨j + 1, L - c, by omega, by go_num, rfl, by omega, by omega, show _ = _ by rw [Hs.out, HL.out]; omega⟩
      case measure => simp [intOf]; omega
  · have hjn : n = (j : Int) := by omega
    have HL' := HL.out
    rw [← hjn] at HL'
    by_cases hk : k ≤ L
    · obtain rfl : b = true := Hbb.out.symm.trans (cfB_yes ⟨h1, h2, h3, h4, h5, h6, h7, h8, h9, h10, by show k + n * c ≤ _; omega⟩)
      clear HL'
      have Hjn := Lib.hid hjn; clear hjn
      go_wp2
      go_ret
      exact ⟨by simp, below_box _ _⟩
    · obtain rfl : b = false := Hbb.out.symm.trans (cfB_no fun h => by
       have h11 := h.2.2.2.2.2.2.2.2.2.2
       simp only at h11
       omega)
      clear HL'
      have Hjn := Lib.hid hjn; clear hjn
      go_wp2
      go_ret
      exact ⟨by simp, below_box _ _⟩
theorem refcfg_calls (c : Cf) (w : World) : Calls Tryz.prog 22 #[cfV c] w (Says w (cfB c)) := by
 obtain ⟨n, q, r, p, k, cc⟩ := c
 by_cases h : n < 1 ∨ 16 < n ∨ q < 1 ∨ 8 < q ∨ r < 0 ∨ 8 < r ∨ p < 1 ∨ 16 < p ∨ k < 0 ∨ cc < 0
 · rw [cfB_no (fun h' => by unfold cfOk at h'; simp only at h'; omega)]
   exact refcfg_no n q r p k cc w h
 · exact refcfg_loop n q r p k cc w (by omega) (by omega) (by omega) (by omega) (by omega) (by omega) (by omega) (by omega) (by omega) (by omega)
end Go.Proofs.YtnkgakhnlbifdaaGreat
