/- Merged texts: StampWords, LineWords. No law is proved here. -/
import Derived.Test.YtgonboccklpoaaaMg1
import Derived.WalkLawsBesides
import Derived.Deep.QuietTactic
import Derived.BigQuiet
import Derived.Test.YtgonboccklpoaaaAppend
/- Stamps by value: words. No function in it; no law is proved here. -/
namespace Go.Proofs.Ytgonboccklpoaaa
open Go.RowKit

/-- a stamp: its time, and who told it -/
abbrev stampV (t w : Int) : Value := .agg #[.int .i64 t, .int .i64 w]

/-- one stamp is older than another one -/
def olderB (t w u v : Int) : Bool := decide (t < u ∨ (t = u ∧ w < v))
/-- a stamp may be, among n -/
def mayB (t w n : Int) : Bool := decide (1 ≤ t ∧ t ≤ 1125899906842624 ∧ 0 ≤ w ∧ w < n)
theorem olderB_yes {t w u v : Int} (h : t < u ∨ (t = u ∧ w < v)) : olderB t w u v = true := by simpa [olderB] using h
theorem olderB_no {t w u v : Int} (h : ¬ (t < u ∨ (t = u ∧ w < v))) : olderB t w u v = false := by simpa [olderB] using h
theorem olderB_iff {t w u v : Int} : olderB t w u v = true ↔ (t < u ∨ (t = u ∧ w < v)) := by simp [olderB]
theorem mayB_yes {t w n : Int} (h : 1 ≤ t ∧ t ≤ 1125899906842624 ∧ 0 ≤ w ∧ w < n) : mayB t w n = true := by simpa [mayB] using h
theorem mayB_no {t w n : Int} (h : ¬ (1 ≤ t ∧ t ≤ 1125899906842624 ∧ 0 ≤ w ∧ w < n)) : mayB t w n = false := by unfold mayB; exact decide_eq_false h

end Go.Proofs.Ytgonboccklpoaaa

/- Words of layer 11: requests that wait. No function in it; no law is proved here. -/
namespace Go.Proofs.Ytgonboccklpoaaa
open Go.RowKit

/-- a request: its time, whose, its amount -/
structure Rq where
  t : Int
  a : Int
  m : Int
deriving DecidableEq
abbrev rqV (x : Rq) : Value := .agg #[.int .i64 x.t, .int .i64 x.a, .int .i64 x.m]
abbrev rqCells (x : Rq) : Array Value := #[.int .i64 x.t, .int .i64 x.a, .int .i64 x.m]
/-- cell j of a request -/
def rqc (x : Rq) (j : Nat) : Value := .int .i64 (if j = 0 then x.t else if j = 1 then x.a else x.m)
def rqAt (l : List Rq) (i : Nat) : Rq := l[i]?.getD ⟨0, 0, 0⟩
/-- a slice of requests; nil and empty in one -/
def Line (w : World) (v : Value) (l : List Rq) : Prop := Elems w v 3 l.length (fun i j => rqc (rqAt l i) j)
theorem Line.later {w w' : World} {v : Value} {l : List Rq} (h : Line w v l) (hb : Below w.heap.size w w') : Line w' v l := Elems.later h hb
theorem Line.nil (w : World) (a : Option Addr) (c : Nat) (h : a = none → c = 0) : Line w (.slice a 0 c) [] := elems_nil w a c 3 _ h
theorem Line.big {w : World} {v : Value} {l : List Rq} (h : Line w v l) : l.length ≤ 9223372036854775807 := h.1
/-- an element of a line, where there is one -/
theorem Line.at {w : World} {a : Option Addr} {m c : Nat} {l : List Rq} (h : Line w (.slice a m c) l) {i : Nat} (hi : i < l.length) :
    ∃ b off, a = some ⟨b, off, none⟩ ∧ w.cell? ⟨b, off + i * 3, none⟩ = some (.int .i64 (rqAt l i).t) ∧ w.cell? ⟨b, off + i * 3 + 1, none⟩ = some (.int .i64 (rqAt l i).a) ∧ w.cell? ⟨b, off + i * 3 + 2, none⟩ = some (.int .i64 (rqAt l i).m) := by
  obtain ⟨b, off, rfl, hc⟩ := Elems.at h hi
  exact ⟨b, off, rfl, by simpa [rqc] using hc 0 (by omega), by rw [Nat.add_assoc]; simpa [rqc] using hc 1 (by omega), by rw [Nat.add_assoc]; simpa [rqc] using hc 2 (by omega)⟩

/-- may a request be in who's line? -/
def oneOk (c : Cf) (who : Int) (x : Rq) : Prop := (1 ≤ x.t ∧ x.t ≤ 1125899906842624 ∧ 0 ≤ x.a ∧ x.a < c.n) ∧ x.a = who ∧ 1 ≤ x.m ∧ x.m ≤ 1099511627776
def oneB (c : Cf) (who : Int) (x : Rq) : Bool := mayB x.t x.a c.n && decide (x.a = who ∧ 1 ≤ x.m ∧ x.m ≤ 1099511627776)
theorem oneB_iff {c : Cf} {who : Int} {x : Rq} : oneB c who x = true ↔ oneOk c who x := by simp [oneB, oneOk, mayB]
def rqOld (x y : Rq) : Bool := olderB x.t x.a y.t y.a
/-- may a line be? -/
def lineOk (c : Cf) (who : Int) (l : List Rq) : Prop :=
  cfOk c ∧ (0 ≤ who ∧ who < c.n) ∧ (l.length : Int) ≤ c.q ∧ ∀ i, i < l.length → oneB c who (rqAt l i) = true ∧ (0 < i → rqOld (rqAt l (i - 1)) (rqAt l i) = true)
instance (c : Cf) (who : Int) (l : List Rq) : Decidable (lineOk c who l) := by unfold lineOk; exact inferInstance
def lineB (c : Cf) (who : Int) (l : List Rq) : Bool := decide (lineOk c who l)
theorem lineB_no {c : Cf} {who : Int} {l : List Rq} (h : ¬ lineOk c who l) : lineB c who l = false := decide_eq_false h
theorem lineB_yes {c : Cf} {who : Int} {l : List Rq} (h : lineOk c who l) : lineB c who l = true := decide_eq_true h
theorem lineB_ok {c : Cf} {who : Int} {l : List Rq} (h : lineB c who l = true) : lineOk c who l := of_decide_eq_true h
/-- may r join behind all others? -/
def nextB (c : Cf) (who : Int) (l : List Rq) (r : Rq) : Bool := oneB c who r && (decide (l.length = 0) || rqOld (rqAt l (l.length - 1)) r)
/-- the line with r behind all others, and the code -/
def joinQ (c : Cf) (who : Int) (l : List Rq) (r : Rq) : List Rq × Int :=
  if lineOk c who l then (if r.m < 1 ∨ 1099511627776 < r.m then ([], 2) else if c.q ≤ (l.length : Int) then ([], 3) else if nextB c who l r then (l ++ [r], 0) else ([], 1)) else ([], 1)
/-- the same requests? -/
def sameQ (k l : List Rq) : Bool := decide (k = l)
theorem sameQ_self (l : List Rq) : sameQ l l = true := decide_eq_true rfl
theorem rqAt_ext {k l : List Rq} (h : k.length = l.length) (h2 : ∀ i, i < k.length → rqAt k i = rqAt l i) : k = l := by
  refine List.ext_getElem h fun i hi hj => ?_
  have := h2 i hi
  simpa [rqAt, List.getElem?_eq_getElem hi, List.getElem?_eq_getElem hj] using this
theorem rqAt_left {l : List Rq} (r : Rq) {i : Nat} (h : i < l.length) : rqAt (l ++ [r]) i = rqAt l i := by unfold rqAt; rw [List.getElem?_append_left h]
theorem rqAt_last (l : List Rq) (r : Rq) : rqAt (l ++ [r]) l.length = r := by unfold rqAt; rw [List.getElem?_append_right (Nat.le_refl _), Nat.sub_self]; rfl
theorem rqAt_tail (l : List Rq) (i : Nat) : rqAt l.tail i = rqAt l (i + 1) := by unfold rqAt; rw [List.getElem?_tail]
theorem join_stays {c : Cf} {who : Int} {l : List Rq} {r : Rq} (h : lineOk c who l) (hq : (l.length : Int) < c.q) (hn : nextB c who l r = true) : lineOk c who (l ++ [r]) := by
  obtain ⟨h1, h2, h3, h4⟩ := h
  unfold nextB at hn
  rw [Bool.and_eq_true, Bool.or_eq_true, decide_eq_true_eq] at hn
  refine ⟨h1, h2, by rw [List.length_append, List.length_singleton]; omega, fun i hi => ?_⟩
  rw [List.length_append, List.length_singleton] at hi
  by_cases hl : i < l.length
  · rw [rqAt_left r hl]
    refine ⟨(h4 i hl).1, fun h0 => ?_⟩
    rw [rqAt_left r (by omega)]
    exact (h4 i hl).2 h0
  · obtain rfl : i = l.length := by omega
    rw [rqAt_last]
    refine ⟨hn.1, fun h0 => ?_⟩
    rw [rqAt_left r (by omega)]
    rcases hn.2 with h5 | h5
    · omega
    · exact h5
theorem leave_stays {c : Cf} {who : Int} {l : List Rq} (h : lineOk c who l) : lineOk c who l.tail := by
  obtain ⟨h1, h2, h3, h4⟩ := h
  refine ⟨h1, h2, by rw [List.length_tail]; omega, fun i hi => ?_⟩
  rw [List.length_tail] at hi
  rw [rqAt_tail]
  refine ⟨(h4 (i + 1) (by omega)).1, fun h0 => ?_⟩
  rw [rqAt_tail, show i - 1 + 1 = i by omega]
  exact (h4 (i + 1) (by omega)).2 (by omega)
/-- what a join answers: a line that reads so, the code -/
def JoinedQ (w : World) (x : List Rq × Int) (e : Ending) (w' : World) : Prop := ∃ A C, e = .returned (.tuple #[.slice A x.1.length C, .int .i64 x.2]) ∧ Line w' (.slice A x.1.length C) x.1 ∧ Below w.heap.size w w'
/-- what a leave answers: the first one, those behind it, and whether there is one -/
def LeftQ (w : World) (l : List Rq) (e : Ending) (w' : World) : Prop := ∃ A C, l.length - 1 ≤ C ∧ e = .returned (.tuple #[rqV (rqAt l 0), .slice A (l.length - 1) C, .bool (decide (0 < l.length))]) ∧ Line w' (.slice A (l.length - 1) C) l.tail ∧ Below w.heap.size w w'
/-- a join that is refused tells a code that is not OK, and no line -/
theorem joinQ_none {c : Cf} {who : Int} {l : List Rq} {x : Rq} (h : lineB c who l = true) (hq : c.q ≤ (l.length : Int) ∨ (x.m < 1 ∨ 1099511627776 < x.m) ∨ nextB c who l x = false) : ∃ j : Int, j ≠ 0 ∧ joinQ c who l x = ([], j) := by
  unfold joinQ
  rw [if_pos (lineB_ok h)]
  by_cases h1 : x.m < 1 ∨ 1099511627776 < x.m
  · exact ⟨2, by decide, by rw [if_pos h1]⟩
  · rw [if_neg h1]
    by_cases h2 : c.q ≤ (l.length : Int)
    · exact ⟨3, by decide, by rw [if_pos h2]⟩
    · rw [if_neg h2]
      have h3 : nextB c who l x = false := by
        rcases hq with h | h | h
        · exact absurd h h2
        · exact absurd h h1
        · exact h
      rw [h3]
      exact ⟨1, by decide, rfl⟩
theorem Line.cap {w : World} {a : Option Addr} {m c : Nat} {l : List Rq} (h : Line w (.slice a m c) l) : m ≤ c ∧ m = l.length := by
  obtain ⟨_, ⟨_, _, hv, _, h0⟩ | ⟨_, _, _, hv, hn, _⟩⟩ := h
  · simp only [Value.slice.injEq] at hv
    omega
  · simp only [Value.slice.injEq] at hv
    omega
/-- a line cut behind its beginning -/
theorem Line.upto {w : World} {a : Option Addr} {n m c : Nat} {l k : List Rq} (h : Line w (.slice a n c) (l ++ k)) (hm : m = l.length) : Line w (.slice a m c) l := by
  subst hm
  have hc := h.cap
  have hb := h.big
  rw [List.length_append] at hc hb
  refine ⟨by omega, ?_⟩
  obtain ⟨_, ⟨a0, c0, hv, h0, hl⟩ | ⟨b, off, c0, hv, hn, hcell⟩⟩ := h
  · simp only [Value.slice.injEq] at hv
    rw [List.length_append] at hl
    exact Or.inl ⟨a, c, by rw [show l.length = 0 by omega], fun h => by rw [hv.2.2]; exact h0 (by rw [← hv.1]; exact h), by omega⟩
  · simp only [Value.slice.injEq] at hv
    obtain ⟨rfl, _, rfl⟩ := hv
    refine Or.inr ⟨b, off, c, rfl, by omega, fun i j hi hj => ?_⟩
    rw [hcell i j (by rw [List.length_append]; omega) hj]
    show some (rqc ((l ++ k)[i]?.getD ⟨0, 0, 0⟩) j) = some (rqc (l[i]?.getD ⟨0, 0, 0⟩) j)
    rw [List.getElem?_append_left hi]
end Go.Proofs.Ytgonboccklpoaaa
