/- Merged texts: MailMath, MailRead. No law is proved here. -/
import Derived.Test.YtfpadcfahfanoaaMg8
import Derived.Test.YtfpadcfahfanoaaMg6
/- Messages as bytes: mathematics. No program in it. No law is proved here. -/
namespace Go.Proofs.Ytfpadcfahfanoaa
open Go.RowKit

/-- the numbers of a message, ahead of its books, and behind them -/
def headN (x : Ml) : List Int := [x.fr, x.to, x.clk]
def echoN (l : List (Int × Int)) : List Int := l.flatMap fun p => [p.1, p.2]
def tailN (x : Ml) : List Int := [x.t, x.a, x.m, x.asks, x.try_, x.ph] ++ echoN x.echo
def allN (x : Ml) : List Int := headN x ++ (flatR x.rows ++ tailN x)
/-- the bytes of a message -/
def mailBytes (x : Ml) : List Int := bytesN ((allN x).map u64n)
theorem mailBytes_parts (x : Ml) : mailBytes x = bytesN ((headN x).map u64n) ++ (booksB x.rows ++ bytesN ((tailN x).map u64n)) := by
  unfold mailBytes allN booksB
  rw [List.map_append, List.map_append, bytesN_append, bytesN_append]
theorem echoN_len (l : List (Int × Int)) : (echoN l).length = 2 * l.length := by
  induction l with
  | nil => rfl
  | cons p l ih =>
    show ([p.1, p.2] ++ echoN l).length = _
    rw [List.length_append, ih, List.length_cons]
    simp; omega
theorem echoN_inj : ∀ {l l' : List (Int × Int)}, echoN l = echoN l' → l = l'
  | [], [], _ => rfl
  | [], p :: l, h => by simp [echoN] at h
  | p :: l, [], h => by simp [echoN] at h
  | p :: l, q :: l', h => by
    have e : [p.1, p.2] ++ echoN l = [q.1, q.2] ++ echoN l' := h
    simp only [List.cons_append, List.nil_append, List.cons.injEq] at e
    obtain ⟨e1, e2, e3⟩ := e
    rw [echoN_inj e3, Prod.ext_iff.2 ⟨e1, e2⟩]
theorem tailN_len (x : Ml) : (tailN x).length = 6 + 2 * x.echo.length := by
  unfold tailN; rw [List.length_append, echoN_len]; rfl
/-- each number of a message that may be is from 0 to 2^50 -/
theorem mail_small {c : Cf} {x : Ml} (h : mailOk c x) : ∀ v ∈ allN x, 0 ≤ v ∧ v ≤ 1125899906842624 := by
  obtain ⟨hr, hf, ht, _, hk, hl, he, hn⟩ := h
  have hc := hr.1
  unfold cfOk at hc
  unfold noteB at hn
  rw [Bool.and_eq_true, Bool.and_eq_true, Bool.and_eq_true, Bool.or_eq_true, decide_eq_true_eq, decide_eq_true_eq] at hn
  obtain ⟨hclk, hhead, hasks, hlook⟩ := hn
  have hlk : ∀ {t p : Int}, lookB t p = true → 0 ≤ t ∧ t ≤ 1125899906842624 ∧ 0 ≤ p ∧ p ≤ 1125899906842624 := fun h => by
    have := of_decide_eq_true h
    unfold lookOk at this
    omega
  intro v hv
  unfold allN at hv
  rcases List.mem_append.1 hv with hv | hv
  · simp only [headN, List.mem_cons, List.not_mem_nil, or_false] at hv
    have : (noteOf x).clk = x.clk := rfl
    rcases hv with rfl | rfl | rfl <;> omega
  · rcases List.mem_append.1 hv with hv | hv
    · exact right_small hr v hv
    · unfold tailN at hv
      rcases List.mem_append.1 hv with hv | hv
      · have hh : 0 ≤ x.t ∧ x.t ≤ 1125899906842624 ∧ 0 ≤ x.a ∧ x.a ≤ 1125899906842624 ∧ 0 ≤ x.m ∧ x.m ≤ 1125899906842624 := by
          rcases hhead with hh | hh
          · have := of_decide_eq_true hh
            have e1 : (noteOf x).t = x.t := rfl
            have e2 : (noteOf x).a = x.a := rfl
            have e3 : (noteOf x).m = x.m := rfl
            omega
          · unfold hasHead at hh
            rw [Bool.and_eq_true, decide_eq_true_eq] at hh
            have h1 := of_decide_eq_true hh.1
            have h2 := hh.2
            have e1 : (noteOf x).t = x.t := rfl
            have e2 : (noteOf x).a = x.a := rfl
            have e3 : (noteOf x).m = x.m := rfl
            omega
        have h1 := hlk hlook
        have e4 : (noteOf x).asks = x.asks := rfl
        have e5 : (noteOf x).try_ = x.try_ := rfl
        have e6 : (noteOf x).ph = x.ph := rfl
        rw [e5, e6] at h1
        simp only [List.mem_cons, List.not_mem_nil, or_false] at hv
        rcases hv with rfl | rfl | rfl | rfl | rfl | rfl <;> omega
      · unfold echoN at hv
        rw [List.mem_flatMap] at hv
        obtain ⟨p, hp, hv⟩ := hv
        obtain ⟨i, hi, rfl⟩ := List.getElem_of_mem hp
        have h1 := (he i hi).1
        have e : lkAt x.echo i = x.echo[i] := by unfold lkAt; rw [List.getElem?_eq_getElem hi]; rfl
        rw [e] at h1
        have h2 := hlk h1
        simp only [List.mem_cons, List.not_mem_nil, or_false] at hv
        rcases hv with rfl | rfl <;> omega
/-- bytes are those of a message that may be -/
def IsMail (c : Cf) (zs : List Int) (x : Ml) : Prop := mailOk c x ∧ zs = mailBytes x
theorem ml_ext {x y : Ml} (h1 : headN x = headN y) (h2 : x.rows = y.rows) (h3 : tailN x = tailN y) : x = y := by
  obtain ⟨fr, tg, clk, rows, t, a, m, asks, tr, ph, echo⟩ := x
  obtain ⟨fr', tg', clk', rows', t', a', m', asks', tr', ph', echo'⟩ := y
  simp only [headN, List.cons.injEq, and_true] at h1
  obtain ⟨rfl, rfl, rfl⟩ := h1
  obtain rfl : rows = rows' := h2
  have e : [t, a, m, asks, tr, ph] ++ echoN echo = [t', a', m', asks', tr', ph'] ++ echoN echo' := h3
  simp only [List.cons_append, List.nil_append, List.cons.injEq] at e
  obtain ⟨rfl, rfl, rfl, rfl, rfl, rfl, e⟩ := e
  rw [echoN_inj e]
theorem parts_inj {c : Cf} {x y : Ml} (hx : mailOk c x) {L : List Rw} (hL : (L.length : Int) = c.n ∧ ∀ r ∈ L, (r.out.length : Int) = c.n) (hy : y.rows = L) (h : allN x = allN y) : x = y := by
  have hn : c.n = (c.n.toNat : Int) := by have := hx.1.1.1; omega
  obtain ⟨h1, h2⟩ := right_rowed hx.1 hn
  have h3 : Rowed c.n.toNat y.rows := fun r hr => by have := hL.2 r (by rw [← hy]; exact hr); omega
  have h4 : y.rows.length = c.n.toNat := by rw [hy]; omega
  unfold allN at h
  obtain ⟨e1, e2⟩ := List.append_inj h rfl
  obtain ⟨e3, e4⟩ := List.append_inj e2 (by rw [flatR_len h2, flatR_len h3, h1, h4])
  exact ml_ext e1 (flatR_inj h2 h3 e3) e4
/-- the same bytes: the same message -/
theorem mail_unique {c : Cf} {x y : Ml} (hx : mailOk c x) (hy : mailOk c y) {r r' : List Int} (h : mailBytes x ++ r = mailBytes y ++ r') : x = y ∧ r = r' := by
  have hn : c.n = (c.n.toNat : Int) := by have := hx.1.1.1; omega
  obtain ⟨h1, h2⟩ := right_rowed hx.1 hn
  obtain ⟨h3, h4⟩ := right_rowed hy.1 hn
  have hlx : (allN x).length = 3 + (c.n.toNat * (c.n.toNat + 2) + (6 + 2 * c.n.toNat)) := by
    unfold allN
    rw [List.length_append, List.length_append, flatR_len h2, h1, tailN_len, show x.echo.length = c.n.toNat by have := hx.2.2.2.2.2.1; omega]
    rfl
  have hly : (allN y).length = 3 + (c.n.toNat * (c.n.toNat + 2) + (6 + 2 * c.n.toNat)) := by
    unfold allN
    rw [List.length_append, List.length_append, flatR_len h4, h3, tailN_len, show y.echo.length = c.n.toNat by have := hy.2.2.2.2.2.1; omega]
    rfl
  obtain ⟨Q, hQ, hr⟩ := bytesN_prefix ((allN x).map u64n) ((allN y).map u64n) r r' h (by rw [List.length_map, List.length_map]; omega)
  have hQ0 : Q = [] := by
    have := congrArg List.length hQ
    rw [List.length_append, List.length_map, List.length_map] at this
    exact List.eq_nil_of_length_eq_zero (by omega)
  subst hQ0
  rw [List.append_nil] at hQ
  have e := map_inj (fun v hv => by have := mail_small hx v hv; omega) (fun v hv => by have := mail_small hy v hv; omega) hQ.symm
  exact ⟨parts_inj hx ⟨hy.1.2.1, fun r hr => by rw [h4 r hr]; omega⟩ rfl e, by rw [hr]; simp [bytesN]⟩
theorem IsMail.unique {c : Cf} {zs : List Int} {x y : Ml} (hx : IsMail c zs x) (hy : IsMail c zs y) : x = y :=
  (mail_unique hx.1 hy.1 (r := []) (r' := []) (by rw [List.append_nil, List.append_nil, ← hx.2, ← hy.2])).1
open Classical in
/-- the message whose bytes they are, or none -/
noncomputable def takeM (c : Cf) (zs : List Int) : Option Ml := if h : ∃ x, IsMail c zs x then some h.choose else none
theorem takeM_yes {c : Cf} {zs : List Int} {x : Ml} (h : IsMail c zs x) : takeM c zs = some x := by
  have hex : ∃ x, IsMail c zs x := ⟨x, h⟩
  unfold takeM
  rw [dif_pos hex, hex.choose_spec.unique h]
theorem takeM_no {c : Cf} {zs : List Int} (h : ∀ x, ¬ IsMail c zs x) : takeM c zs = none := by
  unfold takeM
  exact dif_neg fun ⟨x, hx⟩ => h _ hx
theorem takeM_some {c : Cf} {zs : List Int} {x : Ml} (h : takeM c zs = some x) : IsMail c zs x := by
  unfold takeM at h
  split at h
  · rename_i hex
    obtain rfl := Option.some.inj h
    exact hex.choose_spec
  · cases h

/-- so many numbers with which bytes begin, none above 2^62 - 1, and what is behind them -/
def SomeN (n : Nat) (zs : List Int) (ns : List Nat) (rest : List Int) : Prop := ns.length = n ∧ (∀ v ∈ ns, v ≤ 4611686018427387903) ∧ zs = bytesN ns ++ rest
theorem SomeN.unique {n : Nat} {zs rest rest' : List Int} {ns ns' : List Nat} (h : SomeN n zs ns rest) (h' : SomeN n zs ns' rest') : ns = ns' ∧ rest = rest' := by
  obtain ⟨Q, hQ, hr⟩ := bytesN_prefix ns ns' rest rest' (by rw [← h.2.2, ← h'.2.2]) (by rw [h.1, h'.1]; exact Nat.le_refl _)
  have hQ0 : Q = [] := by
    have := congrArg List.length hQ
    rw [List.length_append, h.1, h'.1] at this
    exact List.eq_nil_of_length_eq_zero (by omega)
  subst hQ0
  rw [List.append_nil] at hQ
  exact ⟨hQ.symm, by rw [hr]; simp [bytesN]⟩
open Classical in
noncomputable def someN (n : Nat) (zs : List Int) : Option (List Nat × List Int) := if h : ∃ x : List Nat × List Int, SomeN n zs x.1 x.2 then some h.choose else none
theorem someN_yes {n : Nat} {zs rest : List Int} {ns : List Nat} (h : SomeN n zs ns rest) : someN n zs = some (ns, rest) := by
  have hex : ∃ x : List Nat × List Int, SomeN n zs x.1 x.2 := ⟨(ns, rest), h⟩
  unfold someN
  rw [dif_pos hex]
  obtain ⟨e1, e2⟩ := hex.choose_spec.unique h
  rw [← e1, ← e2]
theorem someN_no {n : Nat} {zs : List Int} (h : ∀ ns rest, ¬ SomeN n zs ns rest) : someN n zs = none := by
  unfold someN
  exact dif_neg fun ⟨x, hx⟩ => h _ _ hx
theorem someN_some {n : Nat} {zs rest : List Int} {ns : List Nat} (h : someN n zs = some (ns, rest)) : SomeN n zs ns rest := by
  unfold someN at h
  split at h
  · rename_i hex
    have e := Option.some.inj h
    have := hex.choose_spec
    rw [e] at this
    exact this
  · cases h
theorem someN_none {n : Nat} {zs : List Int} (h : someN n zs = none) (ns : List Nat) (rest : List Int) : ¬ SomeN n zs ns rest := fun hs => by
  rw [someN_yes hs] at h; cases h
end Go.Proofs.Ytfpadcfahfanoaa

/- The message whose bytes they are, read part by part: mathematics. No program in it. No law is proved here. -/
namespace Go.Proofs.Ytfpadcfahfanoaa
open Go.RowKit

theorem takeB_some {c : Cf} {zs rest : List Int} {l : List Rw} (h : takeB c zs = some (l, rest)) : Starts c zs l rest := by
  unfold takeB at h
  split at h
  · rename_i hex
    have e := Option.some.inj h
    have := hex.choose_spec
    rw [e] at this
    exact this
  · cases h
theorem takeB_none {c : Cf} {zs : List Int} (h : takeB c zs = none) (l : List Rw) (rest : List Int) : ¬ Starts c zs l rest := fun hs => by
  rw [takeB_yes hs] at h; cases h
/-- a message out of its numbers and books -/
def mkM (n : Nat) (h : List Nat) (rows : List Rw) (t : List Nat) : Ml :=
  ⟨(h[0]?.getD 0 : Nat), (h[1]?.getD 0 : Nat), (h[2]?.getD 0 : Nat), rows, (t[0]?.getD 0 : Nat), (t[1]?.getD 0 : Nat), (t[2]?.getD 0 : Nat), (t[3]?.getD 0 : Nat), (t[4]?.getD 0 : Nat), (t[5]?.getD 0 : Nat), (List.range n).map fun i => (((t[6 + 2 * i]?.getD 0 : Nat) : Int), ((t[6 + 1 + 2 * i]?.getD 0 : Nat) : Int))⟩
theorem small_map {ns : List Nat} (h : ∀ v ∈ ns, v ≤ 4611686018427387903) : (ns.map fun v : Nat => (v : Int)).map u64n = ns := by
  rw [List.map_map]
  conv => rhs; rw [← List.map_id ns]
  exact List.map_congr_left fun v hv => u64n_nat (by have := h v hv; omega)
theorem echo_of (n : Nat) (t : List Nat) (k : Nat) (ht : t.length = k + 2 * n) : echoN ((List.range n).map fun i => (((t[k + 2 * i]?.getD 0 : Nat) : Int), ((t[k + 1 + 2 * i]?.getD 0 : Nat) : Int))) = (t.drop k).map fun v : Nat => (v : Int) := by
  induction n generalizing k with
  | zero => rw [List.drop_of_length_le (by omega)]; rfl
  | succ n ih =>
    rw [List.range_succ_eq_map, List.map_cons, List.map_map]
    have e : (List.range n).map ((fun i => (((t[k + 2 * i]?.getD 0 : Nat) : Int), ((t[k + 1 + 2 * i]?.getD 0 : Nat) : Int))) ∘ Nat.succ) = (List.range n).map fun i => (((t[k + 2 + 2 * i]?.getD 0 : Nat) : Int), ((t[k + 2 + 1 + 2 * i]?.getD 0 : Nat) : Int)) := by
      refine List.map_congr_left fun i _ => ?_
      show (((t[k + 2 * (i + 1)]?.getD 0 : Nat) : Int), ((t[k + 1 + 2 * (i + 1)]?.getD 0 : Nat) : Int)) = _
      rw [show k + 2 * (i + 1) = k + 2 + 2 * i by omega, show k + 1 + 2 * (i + 1) = k + 2 + 1 + 2 * i by omega]
    rw [e]
    show [((t[k + 2 * 0]?.getD 0 : Nat) : Int), ((t[k + 1 + 2 * 0]?.getD 0 : Nat) : Int)] ++ echoN _ = _
    have e5 : t.drop k = t[k]'(by omega) :: t[k + 1]'(by omega) :: t.drop (k + 2) := by rw [List.drop_eq_getElem_cons (show k < t.length by omega), List.drop_eq_getElem_cons (show k + 1 < t.length by omega)]
    have e6 : t[k + 2 * 0]?.getD 0 = t[k]'(by omega) := by
      have h := List.getElem?_eq_getElem (show k < t.length by omega)
      show t[k]?.getD 0 = _
      rw [h]; rfl
    have e7 : t[k + 1 + 2 * 0]?.getD 0 = t[k + 1]'(by omega) := by
      have h := List.getElem?_eq_getElem (show k + 1 < t.length by omega)
      show t[k + 1]?.getD 0 = _
      rw [h]; rfl
    rw [ih (k + 2) (by omega), e5, List.map_cons, List.map_cons, e6, e7]
    rfl
theorem mk_all {n : Nat} {h t : List Nat} {rows : List Rw} (hh : h.length = 3) (ht : t.length = 6 + 2 * n) : allN (mkM n h rows t) = (h.map fun v : Nat => (v : Int)) ++ (flatR rows ++ t.map fun v : Nat => (v : Int)) := by
  unfold allN
  have e1 : headN (mkM n h rows t) = h.map fun v : Nat => (v : Int) := by
    match h, hh with
    | [a, b, d], _ => rfl
  have e2 : tailN (mkM n h rows t) = t.map fun v : Nat => (v : Int) := by
    have e3 := echo_of n t 6 ht
    show [((t[0]?.getD 0 : Nat) : Int), ((t[1]?.getD 0 : Nat) : Int), ((t[2]?.getD 0 : Nat) : Int), ((t[3]?.getD 0 : Nat) : Int), ((t[4]?.getD 0 : Nat) : Int), ((t[5]?.getD 0 : Nat) : Int)] ++ echoN ((List.range n).map fun i => (((t[6 + 2 * i]?.getD 0 : Nat) : Int), ((t[6 + 1 + 2 * i]?.getD 0 : Nat) : Int))) = _
    rw [e3]
    match t, ht with
    | a :: b :: d :: e :: f :: g :: r, _ => rfl
    | [], ht => simp at ht; omega
    | [_], ht => simp at ht; omega
    | [_, _], ht => simp at ht; omega
    | [_, _, _], ht => simp at ht; omega
    | [_, _, _, _], ht => simp at ht; omega
    | [_, _, _, _, _], ht => simp at ht; omega
  rw [e1, e2]; rfl
theorem head_some {c : Cf} {zs : List Int} {x : Ml} (h : IsMail c zs x) : SomeN 3 zs ((headN x).map u64n) (booksB x.rows ++ bytesN ((tailN x).map u64n)) := by
  refine ⟨rfl, fun v hv => ?_, by rw [h.2, mailBytes_parts]⟩
  obtain ⟨y, hy, rfl⟩ := List.mem_map.1 hv
  have := mail_small h.1 y (by unfold allN; exact List.mem_append_left _ hy)
  have := u64n_of this.1 (by omega)
  omega
theorem tail_some {c : Cf} {zs : List Int} {x : Ml} {n : Nat} (hn : c.n = (n : Int)) (h : IsMail c zs x) : SomeN (6 + 2 * n) (bytesN ((tailN x).map u64n)) ((tailN x).map u64n) [] := by
  refine ⟨by rw [List.length_map, tailN_len]; have := h.1.2.2.2.2.2.1; omega, fun v hv => ?_, by rw [List.append_nil]⟩
  obtain ⟨y, hy, rfl⟩ := List.mem_map.1 hv
  have := mail_small h.1 y (by unfold allN; exact List.mem_append_right _ (List.mem_append_right _ hy))
  have := u64n_of this.1 (by omega)
  omega
theorem takeM_head {c : Cf} {zs : List Int} (h : someN 3 zs = none) : takeM c zs = none := takeM_no fun _ hx => someN_none h _ _ (head_some hx)
theorem head_is {c : Cf} {zs r1 : List Int} {hs : List Nat} {x : Ml} (h : someN 3 zs = some (hs, r1)) (hx : IsMail c zs x) : hs = (headN x).map u64n ∧ r1 = booksB x.rows ++ bytesN ((tailN x).map u64n) := (someN_some h).unique (head_some hx)
theorem takeM_books {c : Cf} {zs r1 : List Int} {hs : List Nat} (h : someN 3 zs = some (hs, r1)) (h2 : takeB c r1 = none) : takeM c zs = none := takeM_no fun x hx => by
  obtain ⟨_, e⟩ := head_is h hx
  exact takeB_none h2 x.rows _ ⟨hx.1.1, e⟩
theorem books_is {c : Cf} {zs r1 r2 : List Int} {hs : List Nat} {rows : List Rw} {x : Ml} (h : someN 3 zs = some (hs, r1)) (h2 : takeB c r1 = some (rows, r2)) (hx : IsMail c zs x) : rows = x.rows ∧ r2 = bytesN ((tailN x).map u64n) := by
  obtain ⟨_, e⟩ := head_is h hx
  exact (takeB_some h2).unique ⟨hx.1.1, e⟩
theorem takeM_tail {c : Cf} {zs r1 r2 : List Int} {hs : List Nat} {rows : List Rw} {n : Nat} (hn : c.n = (n : Int)) (h : someN 3 zs = some (hs, r1)) (h2 : takeB c r1 = some (rows, r2)) (h3 : someN (6 + 2 * n) r2 = none) : takeM c zs = none := takeM_no fun x hx => by
  obtain ⟨_, e⟩ := books_is h h2 hx
  exact someN_none h3 _ _ (e ▸ tail_some hn hx)
theorem tail_is {c : Cf} {zs r1 r2 r3 : List Int} {hs ts : List Nat} {rows : List Rw} {n : Nat} {x : Ml} (hn : c.n = (n : Int)) (h : someN 3 zs = some (hs, r1)) (h2 : takeB c r1 = some (rows, r2)) (h3 : someN (6 + 2 * n) r2 = some (ts, r3)) (hx : IsMail c zs x) : ts = (tailN x).map u64n ∧ r3 = [] := by
  obtain ⟨_, e⟩ := books_is h h2 hx
  exact (someN_some h3).unique (e ▸ tail_some hn hx)
theorem takeM_more {c : Cf} {zs r1 r2 r3 : List Int} {hs ts : List Nat} {rows : List Rw} {n : Nat} (hn : c.n = (n : Int)) (h : someN 3 zs = some (hs, r1)) (h2 : takeB c r1 = some (rows, r2)) (h3 : someN (6 + 2 * n) r2 = some (ts, r3)) (h4 : 0 < r3.length) : takeM c zs = none := takeM_no fun x hx => by
  obtain ⟨_, e⟩ := tail_is hn h h2 h3 hx
  rw [e] at h4
  exact absurd h4 (by decide)
theorem takeM_end {c : Cf} {zs r1 r2 r3 : List Int} {hs ts : List Nat} {rows : List Rw} {n : Nat} (hn : c.n = (n : Int)) (h : someN 3 zs = some (hs, r1)) (h2 : takeB c r1 = some (rows, r2)) (h3 : someN (6 + 2 * n) r2 = some (ts, r3)) (h4 : ¬ 0 < r3.length) :
    takeM c zs = if mailOk c (mkM n hs rows ts) then some (mkM n hs rows ts) else none := by
  have hh := someN_some h
  have ht := someN_some h3
  have hb := takeB_some h2
  obtain rfl : r3 = [] := List.eq_nil_of_length_eq_zero (by omega)
  have hall := mk_all (n := n) (rows := rows) hh.1 ht.1
  have hz : zs = mailBytes (mkM n hs rows ts) := by
    unfold mailBytes
    rw [hall, List.map_append, List.map_append, bytesN_append, bytesN_append, small_map hh.2.1, small_map ht.2.1, hh.2.2, hb.2, ht.2.2, List.append_nil]; rfl
  by_cases hok : mailOk c (mkM n hs rows ts)
  · rw [if_pos hok]; exact takeM_yes ⟨hok, hz⟩
  · rw [if_neg hok]
    refine takeM_no fun x hx => hok ?_
    obtain ⟨e1, _⟩ := head_is h hx
    obtain ⟨e2, _⟩ := books_is h h2 hx
    obtain ⟨e3, _⟩ := tail_is hn h h2 h3 hx
    have hax : allN (mkM n hs rows ts) = allN x := by
      rw [hall]
      unfold allN
      have key : ∀ {P : List Int} {ns : List Nat}, ns = P.map u64n → (∀ v ∈ P, v ∈ allN x) → (ns.map fun v : Nat => (v : Int)) = P := fun {P ns} e hP => by
        rw [e, List.map_map]
        conv => rhs; rw [← List.map_id P]
        exact List.map_congr_left fun v hv => by have := mail_small hx.1 v (hP v hv); exact u64n_of this.1 (by omega)
      rw [key e1 (fun v hv => List.mem_append_left _ hv), key e3 (fun v hv => List.mem_append_right _ (List.mem_append_right _ hv)), e2]
    have hnn : c.n = (c.n.toNat : Int) := by omega
    obtain ⟨g1, g2⟩ := right_rowed hx.1.1 hnn
    have := parts_inj hx.1 (L := rows) ⟨by rw [e2]; exact hx.1.1.2.1, fun r hr => by rw [e2] at hr; rw [g2 r hr]; omega⟩ (y := mkM n hs rows ts) rfl hax.symm
    rw [← this]; exact hx.1
end Go.Proofs.Ytfpadcfahfanoaa
