/- Merged texts: StampWords, LineWords, ClaimWords. No law is proved here. -/
import Derived.Test.YtfpadcfahfanoaaMg0
import Derived.WalkLawsBesides
import Derived.Deep.QuietTactic
import Derived.BigQuiet
import Derived.Test.YtfpadcfahfanoaaAppend
import Derived.Test.YtfpadcfahfanoaaRightsWords
/- Stamps by value: words. No function in it; no law is proved here. -/
namespace Go.Proofs.Ytfpadcfahfanoaa
open Go.RowKit

/-- a stamp: its time, and who told it -/
abbrev stampV (t w : Int) : Value := .agg #[.int .i64 t, .int .i64 w]

/-- one stamp is older than another one -/
def olderB (t w u v : Int) : Bool := decide (t < u ∨ (t = u ∧ w < v))
/-- a stamp may be, among n -/
def mayB (t w n : Int) : Bool := decide (1 ≤ t ∧ t ≤ 1125899906842624 ∧ 0 ≤ w ∧ w < n)
theorem olderB_yes {t w u v : Int} (h : t < u ∨ (t = u ∧ w < v)) : olderB t w u v = true := by simpa [olderB] using h
theorem olderB_no {t w u v : Int} (h : ¬ (t < u ∨ (t = u ∧ w < v))) : olderB t w u v = false := by simpa [olderB] using h
theorem olderB_iff {t w u v : Int} : olderB t w u v = true ↔ (t < u ∨ (t = u ∧ w < v)) := by simp [olderB]
theorem mayB_yes {t w n : Int} (h : 1 ≤ t ∧ t ≤ 1125899906842624 ∧ 0 ≤ w ∧ w < n) : mayB t w n = true := by simpa [mayB] using h
theorem mayB_no {t w n : Int} (h : ¬ (1 ≤ t ∧ t ≤ 1125899906842624 ∧ 0 ≤ w ∧ w < n)) : mayB t w n = false := by unfold mayB; exact decide_eq_false h

end Go.Proofs.Ytfpadcfahfanoaa

/- Words of layer 11: requests that wait. No function in it; no law is proved here. -/
namespace Go.Proofs.Ytfpadcfahfanoaa
open Go.RowKit

/-- a request: its time, whose, its amount -/
structure Rq where
  t : Int
  a : Int
  m : Int
deriving DecidableEq
abbrev rqV (x : Rq) : Value := .agg #[.int .i64 x.t, .int .i64 x.a, .int .i64 x.m]
abbrev rqCells (x : Rq) : Array Value := #[.int .i64 x.t, .int .i64 x.a, .int .i64 x.m]
/-- cell j of a request -/
def rqc (x : Rq) (j : Nat) : Value := .int .i64 (if j = 0 then x.t else if j = 1 then x.a else x.m)
def rqAt (l : List Rq) (i : Nat) : Rq := l[i]?.getD ⟨0, 0, 0⟩
/-- a slice of requests; nil and empty in one -/
def Line (w : World) (v : Value) (l : List Rq) : Prop := Elems w v 3 l.length (fun i j => rqc (rqAt l i) j)
theorem Line.later {w w' : World} {v : Value} {l : List Rq} (h : Line w v l) (hb : Below w.heap.size w w') : Line w' v l := Elems.later h hb
theorem Line.nil (w : World) (a : Option Addr) (c : Nat) (h : a = none → c = 0) : Line w (.slice a 0 c) [] := elems_nil w a c 3 _ h
theorem Line.big {w : World} {v : Value} {l : List Rq} (h : Line w v l) : l.length ≤ 9223372036854775807 := h.1
/-- an element of a line, where there is one -/
theorem Line.at {w : World} {a : Option Addr} {m c : Nat} {l : List Rq} (h : Line w (.slice a m c) l) {i : Nat} (hi : i < l.length) :
    ∃ b off, a = some ⟨b, off, none⟩ ∧ w.cell? ⟨b, off + i * 3, none⟩ = some (.int .i64 (rqAt l i).t) ∧ w.cell? ⟨b, off + i * 3 + 1, none⟩ = some (.int .i64 (rqAt l i).a) ∧ w.cell? ⟨b, off + i * 3 + 2, none⟩ = some (.int .i64 (rqAt l i).m) := by
  obtain ⟨b, off, rfl, hc⟩ := Elems.at h hi
  exact ⟨b, off, rfl, by simpa [rqc] using hc 0 (by omega), by rw [Nat.add_assoc]; simpa [rqc] using hc 1 (by omega), by rw [Nat.add_assoc]; simpa [rqc] using hc 2 (by omega)⟩

/-- may a request be in who's line? -/
def oneOk (c : Cf) (who : Int) (x : Rq) : Prop := (1 ≤ x.t ∧ x.t ≤ 1125899906842624 ∧ 0 ≤ x.a ∧ x.a < c.n) ∧ x.a = who ∧ 1 ≤ x.m ∧ x.m ≤ 1099511627776
def oneB (c : Cf) (who : Int) (x : Rq) : Bool := mayB x.t x.a c.n && decide (x.a = who ∧ 1 ≤ x.m ∧ x.m ≤ 1099511627776)
theorem oneB_iff {c : Cf} {who : Int} {x : Rq} : oneB c who x = true ↔ oneOk c who x := by simp [oneB, oneOk, mayB]
def rqOld (x y : Rq) : Bool := olderB x.t x.a y.t y.a
/-- may a line be? -/
def lineOk (c : Cf) (who : Int) (l : List Rq) : Prop :=
  cfOk c ∧ (0 ≤ who ∧ who < c.n) ∧ (l.length : Int) ≤ c.q ∧ ∀ i, i < l.length → oneB c who (rqAt l i) = true ∧ (0 < i → rqOld (rqAt l (i - 1)) (rqAt l i) = true)
instance (c : Cf) (who : Int) (l : List Rq) : Decidable (lineOk c who l) := by unfold lineOk; exact inferInstance
def lineB (c : Cf) (who : Int) (l : List Rq) : Bool := decide (lineOk c who l)
theorem lineB_no {c : Cf} {who : Int} {l : List Rq} (h : ¬ lineOk c who l) : lineB c who l = false := decide_eq_false h
theorem lineB_yes {c : Cf} {who : Int} {l : List Rq} (h : lineOk c who l) : lineB c who l = true := decide_eq_true h
theorem lineB_ok {c : Cf} {who : Int} {l : List Rq} (h : lineB c who l = true) : lineOk c who l := of_decide_eq_true h
/-- may r join behind all others? -/
def nextB (c : Cf) (who : Int) (l : List Rq) (r : Rq) : Bool := oneB c who r && (decide (l.length = 0) || rqOld (rqAt l (l.length - 1)) r)
/-- the line with r behind all others, and the code -/
def joinQ (c : Cf) (who : Int) (l : List Rq) (r : Rq) : List Rq × Int :=
  if lineOk c who l then (if r.m < 1 ∨ 1099511627776 < r.m then ([], 2) else if c.q ≤ (l.length : Int) then ([], 3) else if nextB c who l r then (l ++ [r], 0) else ([], 1)) else ([], 1)
/-- the same requests? -/
def sameQ (k l : List Rq) : Bool := decide (k = l)
theorem sameQ_self (l : List Rq) : sameQ l l = true := decide_eq_true rfl
theorem rqAt_ext {k l : List Rq} (h : k.length = l.length) (h2 : ∀ i, i < k.length → rqAt k i = rqAt l i) : k = l := by
  refine List.ext_getElem h fun i hi hj => ?_
  have := h2 i hi
  simpa [rqAt, List.getElem?_eq_getElem hi, List.getElem?_eq_getElem hj] using this
theorem rqAt_left {l : List Rq} (r : Rq) {i : Nat} (h : i < l.length) : rqAt (l ++ [r]) i = rqAt l i := by unfold rqAt; rw [List.getElem?_append_left h]
theorem rqAt_last (l : List Rq) (r : Rq) : rqAt (l ++ [r]) l.length = r := by unfold rqAt; rw [List.getElem?_append_right (Nat.le_refl _), Nat.sub_self]; rfl
theorem rqAt_tail (l : List Rq) (i : Nat) : rqAt l.tail i = rqAt l (i + 1) := by unfold rqAt; rw [List.getElem?_tail]
theorem join_stays {c : Cf} {who : Int} {l : List Rq} {r : Rq} (h : lineOk c who l) (hq : (l.length : Int) < c.q) (hn : nextB c who l r = true) : lineOk c who (l ++ [r]) := by
  obtain ⟨h1, h2, h3, h4⟩ := h
  unfold nextB at hn
  rw [Bool.and_eq_true, Bool.or_eq_true, decide_eq_true_eq] at hn
  refine ⟨h1, h2, by rw [List.length_append, List.length_singleton]; omega, fun i hi => ?_⟩
  rw [List.length_append, List.length_singleton] at hi
  by_cases hl : i < l.length
  · rw [rqAt_left r hl]
    refine ⟨(h4 i hl).1, fun h0 => ?_⟩
    rw [rqAt_left r (by omega)]
    exact (h4 i hl).2 h0
  · obtain rfl : i = l.length := by omega
    rw [rqAt_last]
    refine ⟨hn.1, fun h0 => ?_⟩
    rw [rqAt_left r (by omega)]
    rcases hn.2 with h5 | h5
    · omega
    · exact h5
theorem leave_stays {c : Cf} {who : Int} {l : List Rq} (h : lineOk c who l) : lineOk c who l.tail := by
  obtain ⟨h1, h2, h3, h4⟩ := h
  refine ⟨h1, h2, by rw [List.length_tail]; omega, fun i hi => ?_⟩
  rw [List.length_tail] at hi
  rw [rqAt_tail]
  refine ⟨(h4 (i + 1) (by omega)).1, fun h0 => ?_⟩
  rw [rqAt_tail, show i - 1 + 1 = i by omega]
  exact (h4 (i + 1) (by omega)).2 (by omega)
/-- what a join answers: a line that reads so, the code -/
def JoinedQ (w : World) (x : List Rq × Int) (e : Ending) (w' : World) : Prop := ∃ A C, e = .returned (.tuple #[.slice A x.1.length C, .int .i64 x.2]) ∧ Line w' (.slice A x.1.length C) x.1 ∧ Below w.heap.size w w'
/-- what a leave answers: the first one, those behind it, and whether there is one -/
def LeftQ (w : World) (l : List Rq) (e : Ending) (w' : World) : Prop := ∃ A C, l.length - 1 ≤ C ∧ e = .returned (.tuple #[rqV (rqAt l 0), .slice A (l.length - 1) C, .bool (decide (0 < l.length))]) ∧ Line w' (.slice A (l.length - 1) C) l.tail ∧ Below w.heap.size w w'
/-- a join that is refused tells a code that is not OK, and no line -/
theorem joinQ_none {c : Cf} {who : Int} {l : List Rq} {x : Rq} (h : lineB c who l = true) (hq : c.q ≤ (l.length : Int) ∨ (x.m < 1 ∨ 1099511627776 < x.m) ∨ nextB c who l x = false) : ∃ j : Int, j ≠ 0 ∧ joinQ c who l x = ([], j) := by
  unfold joinQ
  rw [if_pos (lineB_ok h)]
  by_cases h1 : x.m < 1 ∨ 1099511627776 < x.m
  · exact ⟨2, by decide, by rw [if_pos h1]⟩
  · rw [if_neg h1]
    by_cases h2 : c.q ≤ (l.length : Int)
    · exact ⟨3, by decide, by rw [if_pos h2]⟩
    · rw [if_neg h2]
      have h3 : nextB c who l x = false := by
        rcases hq with h | h | h
        · exact absurd h h2
        · exact absurd h h1
        · exact h
      rw [h3]
      exact ⟨1, by decide, rfl⟩
theorem Line.cap {w : World} {a : Option Addr} {m c : Nat} {l : List Rq} (h : Line w (.slice a m c) l) : m ≤ c ∧ m = l.length := by
  obtain ⟨_, ⟨_, _, hv, _, h0⟩ | ⟨_, _, _, hv, hn, _⟩⟩ := h
  · simp only [Value.slice.injEq] at hv
    omega
  · simp only [Value.slice.injEq] at hv
    omega
/-- a line cut behind its beginning -/
theorem Line.upto {w : World} {a : Option Addr} {n m c : Nat} {l k : List Rq} (h : Line w (.slice a n c) (l ++ k)) (hm : m = l.length) : Line w (.slice a m c) l := by
  subst hm
  have hc := h.cap
  have hb := h.big
  rw [List.length_append] at hc hb
  refine ⟨by omega, ?_⟩
  obtain ⟨_, ⟨a0, c0, hv, h0, hl⟩ | ⟨b, off, c0, hv, hn, hcell⟩⟩ := h
  · simp only [Value.slice.injEq] at hv
    rw [List.length_append] at hl
    exact Or.inl ⟨a, c, by rw [show l.length = 0 by omega], fun h => by rw [hv.2.2]; exact h0 (by rw [← hv.1]; exact h), by omega⟩
  · simp only [Value.slice.injEq] at hv
    obtain ⟨rfl, _, rfl⟩ := hv
    refine Or.inr ⟨b, off, c, rfl, by omega, fun i j hi hj => ?_⟩
    rw [hcell i j (by rw [List.length_append]; omega) hj]
    show some (rqc ((l ++ k)[i]?.getD ⟨0, 0, 0⟩) j) = some (rqc (l[i]?.getD ⟨0, 0, 0⟩) j)
    rw [List.getElem?_append_left hi]
end Go.Proofs.Ytfpadcfahfanoaa

/- Words of layer 14: notes, looks, messages, claims. No function in it; no law is proved here. -/
namespace Go.Proofs.Ytfpadcfahfanoaa
open Go.RowKit

/-- a note: its clock, the head's time, whose, its amount, how often it was asked for, the look's try and phase -/
structure Nt where
  clk : Int
  t : Int
  a : Int
  m : Int
  asks : Int
  try_ : Int
  ph : Int
deriving DecidableEq
abbrev ntV (x : Nt) : Value := .agg #[.int .i64 x.clk, .int .i64 x.t, .int .i64 x.a, .int .i64 x.m, .int .i64 x.asks, .int .i64 x.try_, .int .i64 x.ph]
abbrev ntCells (x : Nt) : Array Value := #[.int .i64 x.clk, .int .i64 x.t, .int .i64 x.a, .int .i64 x.m, .int .i64 x.asks, .int .i64 x.try_, .int .i64 x.ph]
/-- cell j of a note -/
def ntc (x : Nt) (j : Nat) : Value := .int .i64 (if j = 0 then x.clk else if j = 1 then x.t else if j = 2 then x.a else if j = 3 then x.m else if j = 4 then x.asks else if j = 5 then x.try_ else x.ph)
abbrev nt0 : Nt := ⟨0, 0, 0, 0, 0, 0, 0⟩
def ntAt (l : List Nt) (i : Nat) : Nt := l[i]?.getD nt0
/-- the head of a note -/
def headOf (x : Nt) : Rq := ⟨x.t, x.a, x.m⟩
/-- a slice of notes; nil and empty in one -/
def Notes (w : World) (v : Value) (l : List Nt) : Prop := Elems w v 7 l.length (fun i j => ntc (ntAt l i) j)
theorem Notes.later {w w' : World} {v : Value} {l : List Nt} (h : Notes w v l) (hb : Below w.heap.size w w') : Notes w' v l := Elems.later h hb
theorem Notes.nil (w : World) (a : Option Addr) (c : Nat) (h : a = none → c = 0) : Notes w (.slice a 0 c) [] := elems_nil w a c 7 _ h
theorem Notes.big {w : World} {v : Value} {l : List Nt} (h : Notes w v l) : l.length ≤ 9223372036854775807 := h.1
/-- what a note in a slice reads as -/
def NtIn (w : World) (b o : Nat) (x : Nt) : Prop :=
  w.cell? ⟨b, o, none⟩ = some (.int .i64 x.clk) ∧ w.cell? ⟨b, o + 1, none⟩ = some (.int .i64 x.t) ∧ w.cell? ⟨b, o + 2, none⟩ = some (.int .i64 x.a) ∧ w.cell? ⟨b, o + 3, none⟩ = some (.int .i64 x.m) ∧
  w.cell? ⟨b, o + 4, none⟩ = some (.int .i64 x.asks) ∧ w.cell? ⟨b, o + 5, none⟩ = some (.int .i64 x.try_) ∧ w.cell? ⟨b, o + 6, none⟩ = some (.int .i64 x.ph)
theorem NtIn.later {w w' : World} {b o : Nat} {x : Nt} (h : NtIn w b o x) (hb : Below w.heap.size w w') : NtIn w' b o x := by
  obtain ⟨h0, h1, h2, h3, h4, h5, h6⟩ := h
  exact ⟨cell_later hb h0, cell_later hb h1, cell_later hb h2, cell_later hb h3, cell_later hb h4, cell_later hb h5, cell_later hb h6⟩
theorem Notes.at {w : World} {a : Option Addr} {m c : Nat} {l : List Nt} (h : Notes w (.slice a m c) l) {i : Nat} (hi : i < l.length) : ∃ b off, a = some ⟨b, off, none⟩ ∧ NtIn w b (off + i * 7) (ntAt l i) := by
  obtain ⟨b, off, rfl, hc⟩ := Elems.at h hi
  refine ⟨b, off, rfl, ?_, ?_, ?_, ?_, ?_, ?_, ?_⟩
  · simpa [ntc] using hc 0 (by omega)
  · rw [Nat.add_assoc]; simpa [ntc] using hc 1 (by omega)
  · rw [Nat.add_assoc]; simpa [ntc] using hc 2 (by omega)
  · rw [Nat.add_assoc]; simpa [ntc] using hc 3 (by omega)
  · rw [Nat.add_assoc]; simpa [ntc] using hc 4 (by omega)
  · rw [Nat.add_assoc]; simpa [ntc] using hc 5 (by omega)
  · rw [Nat.add_assoc]; simpa [ntc] using hc 6 (by omega)
theorem nt_cells {w : World} {g : Nat} {x : Nt} (h : Whole w g 70 (ntCells x)) : NtIn w g 0 x := ⟨h.cell 0, h.cell 1, h.cell 2, h.cell 3, h.cell 4, h.cell 5, h.cell 6⟩
theorem ntAt_ext {k l : List Nt} (h : k.length = l.length) (h2 : ∀ i, i < k.length → ntAt k i = ntAt l i) : k = l := by
  refine List.ext_getElem h fun i hi hj => ?_
  have := h2 i hi
  simpa [ntAt, List.getElem?_eq_getElem hi, List.getElem?_eq_getElem hj] using this
/-- the same notes? -/
def sameNt (k l : List Nt) : Bool := decide (k = l)
theorem sameNt_self (l : List Nt) : sameNt l l = true := decide_eq_true rfl

/-- a slice of looks -/
def lkAt (l : List (Int × Int)) (i : Nat) : Int × Int := l[i]?.getD (0, 0)
def lkc (x : Int × Int) (j : Nat) : Value := .int .i64 (if j = 0 then x.1 else x.2)
def Looks (w : World) (v : Value) (l : List (Int × Int)) : Prop := Elems w v 2 l.length (fun i j => lkc (lkAt l i) j)
theorem Looks.later {w w' : World} {v : Value} {l : List (Int × Int)} (h : Looks w v l) (hb : Below w.heap.size w w') : Looks w' v l := Elems.later h hb
theorem Looks.at {w : World} {a : Option Addr} {m c : Nat} {l : List (Int × Int)} (h : Looks w (.slice a m c) l) {i : Nat} (hi : i < l.length) :
    ∃ b off, a = some ⟨b, off, none⟩ ∧ w.cell? ⟨b, off + i * 2, none⟩ = some (.int .i64 (lkAt l i).1) ∧ w.cell? ⟨b, off + i * 2 + 1, none⟩ = some (.int .i64 (lkAt l i).2) := by
  obtain ⟨b, off, rfl, hc⟩ := Elems.at h hi
  exact ⟨b, off, rfl, by simpa [lkc] using hc 0 (by omega), by rw [Nat.add_assoc]; simpa [lkc] using hc 1 (by omega)⟩

/-- a message -/
structure Ml where
  fr : Int
  to : Int
  clk : Int
  rows : List Rw
  t : Int
  a : Int
  m : Int
  asks : Int
  try_ : Int
  ph : Int
  echo : List (Int × Int)
abbrev mlV (x : Ml) (rv ev : Value) : Value := .agg #[.int .i64 x.fr, .int .i64 x.to, .int .i64 x.clk, rv, .int .i64 x.t, .int .i64 x.a, .int .i64 x.m, .int .i64 x.asks, .int .i64 x.try_, .int .i64 x.ph, ev]
abbrev mlCells (x : Ml) (rv ev : Value) : Array Value := #[.int .i64 x.fr, .int .i64 x.to, .int .i64 x.clk, rv, .int .i64 x.t, .int .i64 x.a, .int .i64 x.m, .int .i64 x.asks, .int .i64 x.try_, .int .i64 x.ph, ev]
/-- the note that a message tells -/
def noteOf (x : Ml) : Nt := ⟨x.clk, x.t, x.a, x.m, x.asks, x.try_, x.ph⟩
/-- a message's lists, as they lie there: rows, and looks -/
def MailIn (w : World) (a1 : Option Addr) (m1 c1 : Nat) (a2 : Option Addr) (m2 c2 : Nat) (x : Ml) : Prop :=
  m1 = x.rows.length ∧ Books w (.slice a1 m1 c1) x.rows ∧ m2 = x.echo.length ∧ Looks w (.slice a2 m2 c2) x.echo
theorem MailIn.later {w w' : World} {a1 : Option Addr} {m1 c1 : Nat} {a2 : Option Addr} {m2 c2 : Nat} {x : Ml} (h : MailIn w a1 m1 c1 a2 m2 c2 x) (hb : Below w.heap.size w w') : MailIn w' a1 m1 c1 a2 m2 c2 x :=
  ⟨h.1, h.2.1.later hb, h.2.2.1, h.2.2.2.later hb⟩

def lookOk (t p : Int) : Prop := (t = 0 ∧ p = 0) ∨ (0 < t ∧ t ≤ 1125899906842624 ∧ 0 < p ∧ p < 3)
instance (t p : Int) : Decidable (lookOk t p) := by unfold lookOk; exact inferInstance
def lookB (t p : Int) : Bool := decide (lookOk t p)
/-- a head is none -/
def noHead (x : Nt) : Bool := decide (x.t = 0 ∧ x.a = 0 ∧ x.m = 0)
/-- a head is a request of who that may be -/
def hasHead (c : Cf) (who : Int) (x : Nt) : Bool := mayB x.t x.a c.n && decide (x.a = who ∧ 0 < x.m ∧ x.m ≤ 1099511627776)
/-- may it be a note of who? -/
def noteB (c : Cf) (who : Int) (x : Nt) : Bool := decide (0 ≤ x.clk ∧ x.clk ≤ 1125899906842624) && ((noHead x || hasHead c who x) && (decide (0 ≤ x.asks ∧ x.asks ≤ c.r) && lookB x.try_ x.ph))
/-- may they be notes of who? -/
def notesOk (c : Cf) (who : Int) (l : List Nt) : Prop := cfOk c ∧ (0 ≤ who ∧ who < c.n) ∧ (l.length : Int) = c.n ∧ ∀ i, i < l.length → noteB c i (ntAt l i) = true ∧ ((i : Int) = who → ntAt l i = nt0)
instance (c : Cf) (who : Int) (l : List Nt) : Decidable (notesOk c who l) := by unfold notesOk; exact inferInstance
def notesB (c : Cf) (who : Int) (l : List Nt) : Bool := decide (notesOk c who l)
/-- may it be a message? -/
def mailOk (c : Cf) (x : Ml) : Prop :=
  rightOk c x.rows ∧ (0 ≤ x.fr ∧ x.fr < c.n) ∧ (0 ≤ x.to ∧ x.to < c.n) ∧ x.fr ≠ x.to ∧ x.clk ≠ 0 ∧ (x.echo.length : Int) = c.n ∧
  (∀ i, i < x.echo.length → lookB (lkAt x.echo i).1 (lkAt x.echo i).2 = true ∧ ((i : Int) = x.fr → ¬ 0 < (lkAt x.echo i).2)) ∧ noteB c x.fr (noteOf x) = true
instance (c : Cf) (x : Ml) : Decidable (mailOk c x) := by unfold mailOk; exact inferInstance
def mailB (c : Cf) (x : Ml) : Bool := decide (mailOk c x)
/-- does a note tell a claim? -/
def onB (c : Cf) (x : Nt) : Bool := decide (cfOk c ∧ 0 < x.m ∧ c.r ≤ x.asks)
/-- the notes behind a message that may be -/
def heardL (l : List Nt) (x : Ml) : List Nt := if (ntAt l x.fr.toNat).clk < x.clk then l.set x.fr.toNat (noteOf x) else l
/-- the notes behind a message, and the code -/
def hearN (c : Cf) (who : Int) (l : List Nt) (x : Ml) : List Nt × Int := if notesOk c who l ∧ mailOk c x ∧ x.to = who then (heardL l x, 0) else ([], 1)
/-- which of the first k notes has the oldest claim -/
def oldK (c : Cf) (l : List Nt) : Nat → Option Nat
  | 0 => none
  | k + 1 => if onB c (ntAt l k) then (match oldK c l k with
      | none => some k
      | some j => if olderB (ntAt l k).t (ntAt l k).a (ntAt l j).t (ntAt l j).a then some k else some j) else oldK c l k
/-- the head of the oldest claim, and whether there is one -/
def oldestN (c : Cf) (who : Int) (l : List Nt) : Rq × Bool := if notesOk c who l then (match oldK c l l.length with
  | some j => (headOf (ntAt l j), true)
  | none => (⟨0, 0, 0⟩, false)) else (⟨0, 0, 0⟩, false)
/-- is there a claim that is older? -/
def heldB (c : Cf) (who : Int) (l : List Nt) (t a : Int) : Bool := decide (notesOk c who l ∧ ∃ i, i < l.length ∧ (onB c (ntAt l i) = true ∧ olderB (ntAt l i).t (ntAt l i).a t a = true))
/-- whose the oldest claim is, if one's first request isn't older -/
def callsN (c : Cf) (who : Int) (l : List Nt) (h : Rq) : Int × Bool :=
  if (oldestN c who l).2 = true ∧ ¬ (h.m ≠ 0 ∧ olderB h.t h.a (oldestN c who l).1.t (oldestN c who l).1.a = true) then ((oldestN c who l).1.a, true) else (0, false)
/-- notes that a call answers, and a code -/
def GaveNt (w : World) (x : List Nt × Int) (e : Ending) (w' : World) : Prop := ∃ A C, e = .returned (.tuple #[.slice A x.1.length C, .int .i64 x.2]) ∧ Notes w' (.slice A x.1.length C) x.1 ∧ Below w.heap.size w w'
theorem heard_length (l : List Nt) (x : Ml) : (heardL l x).length = l.length := by unfold heardL; split <;> simp
theorem notesB_no {c : Cf} {who : Int} {l : List Nt} (h : ¬ notesOk c who l) : notesB c who l = false := decide_eq_false h
theorem mailB_no {c : Cf} {x : Ml} (h : ¬ mailOk c x) : mailB c x = false := decide_eq_false h
end Go.Proofs.Ytfpadcfahfanoaa
