/- Parts, as far as BookBackCards reaches them, of: RightsWords, StampWords, LineWords, ClaimWords. No law is proved here. -/
import Derived.Test.YtnkgakhnlbifdaaGreatBa0
import Derived.Test.YtnkgakhnlbifdaaGreatBa1
import Derived.WalkKit
import Derived.WalkLawsBesides
import Derived.LoopTactic
import Derived.IntWalk
import Derived.Deep.QuietTactic
import Derived.BigQuiet
namespace Go.Proofs.YtnkgakhnlbifdaaGreat
open Go.RowKit
def shareV (c : Cf) (who : Int) : Int := if cfOk c ∧ 0 ≤ who ∧ who < c.n then c.k / c.n + (if who < c.k - c.k / c.n * c.n then 1 else 0) else 0
theorem shareV_no {c : Cf} {who : Int} (h : ¬ (cfOk c ∧ 0 ≤ who ∧ who < c.n)) : shareV c who = 0 := if_neg h
def flow (l : List Rw) (who : Nat) : Nat → Int
 | 0 => 0
 | k + 1 => flow l who k + ((at_ l k).out[who]?.getD 0 - (at_ l who).out[k]?.getD 0)
def rightsV (c : Cf) (l : List Rw) (who : Nat) : Int := shareV c who + (at_ l who).inc - (at_ l who).use + flow l who l.length
def Fits (l : List Rw) : Prop := ∀ k, k < l.length → (at_ l k).out.length = l.length ∧ 0 ≤ (at_ l k).inc ∧ (at_ l k).inc ≤ 1099511627776 ∧ 0 ≤ (at_ l k).use ∧ (at_ l k).use ≤ 1099511627776 ∧
 ∀ j, j < l.length → 0 ≤ (at_ l k).out[j]?.getD 0 ∧ (at_ l k).out[j]?.getD 0 ≤ 1125899906842624
theorem flow_bound {l : List Rw} (hF : Fits l) {who : Nat} (hw : who < l.length) : ∀ k, k ≤ l.length → -(1125899906842624 * (k : Int)) ≤ flow l who k ∧ flow l who k ≤ 1125899906842624 * (k : Int)
 | 0, _ => by simp [flow]
 | k + 1, hk => by
   have ih := flow_bound hF hw k (by omega)
   obtain ⟨_, _, _, _, _, h1⟩ := hF k (by omega)
   obtain ⟨_, _, _, _, _, h2⟩ := hF who hw
   have h3 := h1 who hw
   have h4 := h2 k (by omega)
   simp only [flow]
   omega
theorem shareV_bound (c : Cf) (who : Int) : 0 ≤ shareV c who ∧ shareV c who ≤ 1099511627777 := by
 unfold shareV
 split
 · rename_i h
   obtain ⟨⟨g1, _, _, _, _, _, _, _, g9, g10, g11⟩, _, _⟩ := h
   have := Int.mul_nonneg (show 0 ≤ c.n by omega) g10
   have := Int.ediv_nonneg g9 (show 0 ≤ c.n by omega)
   have := Int.ediv_le_self c.n g9
   split <;> omega
 · omega
theorem fits_iff (la : List Int) (who : Int) : fits (la.zip (mosts who la.length)) = true ↔ ∀ k, k < la.length → 0 ≤ la[k]?.getD 0 ∧ la[k]?.getD 0 ≤ mostOf who k := by
 unfold fits
 rw [List.all_eq_true]
 constructor
 · intro h k hk
   have := h ((la.zip (mosts who la.length))[k]'(by rw [List.length_zip, mosts_length]; omega)) (List.getElem_mem _)
   have := of_decide_eq_true this
   rw [List.getElem_zip] at this
   have e := mosts_at who la.length k hk
   rw [List.getElem?_eq_getElem (by rw [mosts_length]; exact hk)] at e
   rw [List.getElem?_eq_getElem hk]
   simp only [Option.getD_some] at e ⊢
   rw [e] at this
   exact this
 · intro h x hx
   obtain ⟨k, hk, rfl⟩ := List.getElem_of_mem hx
   rw [List.length_zip, mosts_length] at hk
   have := h k (by omega)
   apply decide_eq_true
   rw [List.getElem_zip]
   have e := mosts_at who la.length k (by omega)
   rw [List.getElem?_eq_getElem (by rw [mosts_length]; omega)] at e
   rw [List.getElem?_eq_getElem (show k < la.length by omega)] at this
   simp only [Option.getD_some] at e this
   rw [e]
   exact this
theorem mayR_iff (i u : Int) (la : List Int) (n who : Int) : mayR i u la n who = true ↔ (la.length : Int) = n ∧ 0 ≤ who ∧ who < n ∧ (0 ≤ i ∧ i ≤ 1099511627776) ∧ (0 ≤ u ∧ u ≤ 1099511627776) ∧ ∀ k, k < la.length → 0 ≤ la[k]?.getD 0 ∧ la[k]?.getD 0 ≤ mostOf who k := by
 unfold mayR countB
 rw [Bool.and_eq_true, Bool.and_eq_true, Bool.and_eq_true, decide_eq_true_eq, decide_eq_true_eq, decide_eq_true_eq, fits_iff]
 constructor
 · rintro ⟨⟨⟨h1, h2, h3⟩, h4, h5⟩, h6⟩
   exact ⟨h1, h2, h3, h4, h5, h6⟩
 · rintro ⟨h1, h2, h3, h4, h5, h6⟩
   exact ⟨⟨⟨h1, h2, h3⟩, h4, h5⟩, h6⟩
theorem mayR_no {i u : Int} {la : List Int} {n who : Int} (h : ¬ ((la.length : Int) = n ∧ 0 ≤ who ∧ who < n ∧ (0 ≤ i ∧ i ≤ 1099511627776) ∧ (0 ≤ u ∧ u ≤ 1099511627776) ∧ ∀ k, k < la.length → 0 ≤ la[k]?.getD 0 ∧ la[k]?.getD 0 ≤ mostOf who k)) : mayR i u la n who = false := by
 cases e : mayR i u la n who with
 | false => rfl
 | true => exact absurd ((mayR_iff _ _ _ _ _).1 e) h
def rightOk (c : Cf) (l : List Rw) : Prop := cfOk c ∧ (l.length : Int) = c.n ∧ (∀ i, i < l.length → mayR (at_ l i).inc (at_ l i).use (at_ l i).out c.n i = true ∧ (at_ l i).inc ≤ c.c) ∧ ∀ i, i < l.length → 0 ≤ rightsV c l i
instance (c : Cf) (l : List Rw) : Decidable (rightOk c l) := by unfold rightOk; exact inferInstance
def rightB (c : Cf) (l : List Rw) : Bool := decide (rightOk c l)
theorem rightB_no {c : Cf} {l : List Rw} (h : ¬ rightOk c l) : rightB c l = false := decide_eq_false h
theorem rightB_ok {c : Cf} {l : List Rw} (h : rightB c l = true) : rightOk c l := of_decide_eq_true h
theorem fits_of_may {l : List Rw} (h : ∀ i, i < l.length → mayR (at_ l i).inc (at_ l i).use (at_ l i).out (l.length : Int) i = true) : Fits l := by
 intro k hk
 obtain ⟨h1, h2, h3, ⟨h4, h5⟩, ⟨h6, h7⟩, h8⟩ := (mayR_iff _ _ _ _ _).1 (h k hk)
 refine ⟨by omega, h4, h5, h6, h7, fun j hj => ?_⟩
 have h9 := h8 j (by omega)
 unfold mostOf at h9
 split at h9 <;> omega
theorem rightOk.fits {c : Cf} {l : List Rw} (h : rightOk c l) : Fits l := fits_of_may fun i hi => by rw [h.2.1]; exact (h.2.2.1 i hi).1
theorem rightOk.len {c : Cf} {l : List Rw} (h : rightOk c l) : l.length ≤ 16 := by have := h.1.2.1; have := h.2.1; omega
def sameL (la lb : List Rw) : Bool := decide (la.length = lb.length ∧ ∀ k, k < la.length → sameB (at_ la k).inc (at_ la k).use (at_ la k).out (at_ lb k).inc (at_ lb k).use (at_ lb k).out = true)
theorem sameL_no {la lb : List Rw} (h : ¬ (la.length = lb.length ∧ ∀ k, k < la.length → sameB (at_ la k).inc (at_ la k).use (at_ la k).out (at_ lb k).inc (at_ lb k).use (at_ lb k).out = true)) : sameL la lb = false := decide_eq_false h
theorem sameL_self (l : List Rw) : sameL l l = true := decide_eq_true ⟨rfl, fun _ _ => decide_eq_true ⟨rfl, rfl, rfl⟩⟩
theorem sameL_eq {la lb : List Rw} (h : sameL la lb = true) : la = lb := by
 obtain ⟨h1, h2⟩ := of_decide_eq_true h
 apply List.ext_getElem h1
 intro k hk1 hk2
 have := of_decide_eq_true (h2 k hk1)
 rw [at_lt hk1, at_lt hk2] at this
 obtain ⟨e1, e2, e3⟩ := this
 cases ha : la[k]; cases hb : lb[k]
 rw [ha, hb] at e1 e2 e3
 simp only at e1 e2 e3
 rw [e1, e2, e3]
def Reach (l : List Rw) : Prop := l.length ≤ 17592186044416 ∧ ∀ k, k < l.length → (at_ l k).out.length ≤ 17592186044416
def bulk (l : List Rw) : Nat → Nat
 | 0 => l.length
 | k + 1 => bulk l k + (at_ l k).out.length
theorem bulk_mono (l : List Rw) : ∀ j k, j ≤ k → bulk l j ≤ bulk l k
 | j, 0, h => by obtain rfl : j = 0 := by omega
                 exact Nat.le_refl _
 | j, k + 1, h => by
   by_cases e : j = k + 1
   · rw [e]; exact Nat.le_refl _
   · exact Nat.le_trans (bulk_mono l j k (by omega)) (by simp only [bulk]; omega)
def shortB (l : List Rw) : Bool := decide (bulk l l.length ≤ 400)
theorem shortB_len {l : List Rw} (h : shortB l = true) : l.length ≤ 400 ∧ ∀ k, k < l.length → (at_ l k).out.length ≤ 400 := by
 have h' : bulk l l.length ≤ 400 := of_decide_eq_true h
 refine ⟨?_, fun k hk => ?_⟩
 · have := bulk_mono l 0 l.length (Nat.zero_le _)
   simp only [bulk] at this; omega
 · have := bulk_mono l (k + 1) l.length hk
   simp only [bulk] at this; omega
theorem take_at {l : List Rw} {k : Nat} (h : k < l.length) : l.take (k + 1) = l.take k ++ [at_ l k] := by
 rw [List.take_succ_eq_append_getElem h, at_lt h]
theorem one_row {w : World} {g : Nat} {i u : Int} {v : Value} (h : Whole w g 109 #[.int .i64 i, .int .i64 u, v]) : Elems w (.slice (some ⟨g, 0, none⟩) 1 1) 3 1 (fun _ j => if j = 0 then .int .i64 i else if j = 1 then .int .i64 u else v) := by
 refine ⟨by decide, Or.inr ⟨g, 0, 1, rfl, Nat.le_refl _, fun i' j hi hj => ?_⟩⟩
 obtain rfl : i' = 0 := by omega
 rw [h.cell]
 match j, hj with
 | 0, _ => rfl
 | 1, _ => rfl
 | 2, _ => rfl
def zeroRow (n : Nat) : Rw := ⟨0, 0, List.replicate n 0⟩
def newL (c : Cf) : List Rw := if cfOk c then List.replicate c.n.toNat (zeroRow c.n.toNat) else []
theorem made_flat (n : Nat) : (madeCells #[.int .i64 0] n).toList = (List.replicate n (0 : Int)).map (Value.int .i64) := by
 unfold madeCells
 apply List.ext_getElem
 · simp
 · intro i h1 h2
   simp [Nat.mod_one]
def Num (w : World) (x : Int) (e : Ending) (w' : World) : Prop := e = .returned (.int .i64 x) ∧ Below w.heap.size w w'
def amongB (c : Cf) (who : Int) : Bool := decide (0 ≤ who ∧ who < c.n)
theorem amongB_yes {c : Cf} {who : Int} (h : 0 ≤ who ∧ who < c.n) : amongB c who = true := decide_eq_true h
theorem amongB_no {c : Cf} {who : Int} (h : ¬ (0 ≤ who ∧ who < c.n)) : amongB c who = false := decide_eq_false h
theorem rem_eq {k n : Int} : k % n = k - k / n * n := by
 have := Int.mul_ediv_add_emod k n
 rw [Int.mul_comm] at this
 omega
def sumN (g : Nat → Int) : Nat → Int
 | 0 => 0
 | k + 1 => sumN g k + g k
theorem sumN_bound {g : Nat → Int} {b : Int} {n : Nat} (h : ∀ k, k < n → -b ≤ g k ∧ g k ≤ b) : ∀ k, k ≤ n → -(b * (k : Int)) ≤ sumN g k ∧ sumN g k ≤ b * (k : Int)
 | 0, _ => by simp [sumN]
 | k + 1, hk => by
   have ih := sumN_bound h k (by omega)
   have h1 := h k (by omega)
   simp only [sumN]
   rw [show ((k + 1 : Nat) : Int) = (k : Int) + 1 by omega, Int.mul_add, Int.mul_one]
   omega
end Go.Proofs.YtnkgakhnlbifdaaGreat
namespace Go.Proofs.YtnkgakhnlbifdaaGreat
open Go.RowKit
abbrev stampV (t w : Int) : Value := .agg #[.int .i64 t, .int .i64 w]
def olderB (t w u v : Int) : Bool := decide (t < u ∨ (t = u ∧ w < v))
def mayB (t w n : Int) : Bool := decide (1 ≤ t ∧ t ≤ 1125899906842624 ∧ 0 ≤ w ∧ w < n)
theorem olderB_yes {t w u v : Int} (h : t < u ∨ (t = u ∧ w < v)) : olderB t w u v = true := by simpa [olderB] using h
theorem olderB_no {t w u v : Int} (h : ¬ (t < u ∨ (t = u ∧ w < v))) : olderB t w u v = false := by simpa [olderB] using h
theorem mayB_yes {t w n : Int} (h : 1 ≤ t ∧ t ≤ 1125899906842624 ∧ 0 ≤ w ∧ w < n) : mayB t w n = true := by simpa [mayB] using h
theorem mayB_no {t w n : Int} (h : ¬ (1 ≤ t ∧ t ≤ 1125899906842624 ∧ 0 ≤ w ∧ w < n)) : mayB t w n = false := by unfold mayB; exact decide_eq_false h
end Go.Proofs.YtnkgakhnlbifdaaGreat
namespace Go.Proofs.YtnkgakhnlbifdaaGreat
open Go.RowKit
structure Rq where
 t : Int
 a : Int
 m : Int
deriving DecidableEq
abbrev rqV (x : Rq) : Value := .agg #[.int .i64 x.t, .int .i64 x.a, .int .i64 x.m]
abbrev rqCells (x : Rq) : Array Value := #[.int .i64 x.t, .int .i64 x.a, .int .i64 x.m]
def rqc (x : Rq) (j : Nat) : Value := .int .i64 (if j = 0 then x.t else if j = 1 then x.a else x.m)
def rqAt (l : List Rq) (i : Nat) : Rq := l[i]?.getD ⟨0, 0, 0⟩
def Line (w : World) (v : Value) (l : List Rq) : Prop := Elems w v 3 l.length (fun i j => rqc (rqAt l i) j)
theorem Line.later {w w' : World} {v : Value} {l : List Rq} (h : Line w v l) (hb : Below w.heap.size w w') : Line w' v l := Elems.later h hb
theorem Line.nil (w : World) (a : Option Addr) (c : Nat) (h : a = none → c = 0) : Line w (.slice a 0 c) [] := elems_nil w a c 3 _ h
theorem Line.big {w : World} {v : Value} {l : List Rq} (h : Line w v l) : l.length ≤ 9223372036854775807 := h.1
theorem Line.at {w : World} {a : Option Addr} {m c : Nat} {l : List Rq} (h : Line w (.slice a m c) l) {i : Nat} (hi : i < l.length) :
 ∃ b off, a = some ⟨b, off, none⟩ ∧ w.cell? ⟨b, off + i * 3, none⟩ = some (.int .i64 (rqAt l i).t) ∧ w.cell? ⟨b, off + i * 3 + 1, none⟩ = some (.int .i64 (rqAt l i).a) ∧ w.cell? ⟨b, off + i * 3 + 2, none⟩ = some (.int .i64 (rqAt l i).m) := by
 obtain ⟨b, off, rfl, hc⟩ := Elems.at h hi
 exact ⟨b, off, rfl, by simpa [rqc] using hc 0 (by omega), by rw [Nat.add_assoc]; simpa [rqc] using hc 1 (by omega), by rw [Nat.add_assoc]; simpa [rqc] using hc 2 (by omega)⟩
def oneOk (c : Cf) (who : Int) (x : Rq) : Prop := (1 ≤ x.t ∧ x.t ≤ 1125899906842624 ∧ 0 ≤ x.a ∧ x.a < c.n) ∧ x.a = who ∧ 1 ≤ x.m ∧ x.m ≤ 1099511627776
def oneB (c : Cf) (who : Int) (x : Rq) : Bool := mayB x.t x.a c.n && decide (x.a = who ∧ 1 ≤ x.m ∧ x.m ≤ 1099511627776)
theorem oneB_iff {c : Cf} {who : Int} {x : Rq} : oneB c who x = true ↔ oneOk c who x := by simp [oneB, oneOk, mayB]
def rqOld (x y : Rq) : Bool := olderB x.t x.a y.t y.a
def lineOk (c : Cf) (who : Int) (l : List Rq) : Prop :=
 cfOk c ∧ (0 ≤ who ∧ who < c.n) ∧ (l.length : Int) ≤ c.q ∧ ∀ i, i < l.length → oneB c who (rqAt l i) = true ∧ (0 < i → rqOld (rqAt l (i - 1)) (rqAt l i) = true)
instance (c : Cf) (who : Int) (l : List Rq) : Decidable (lineOk c who l) := by unfold lineOk; exact inferInstance
def lineB (c : Cf) (who : Int) (l : List Rq) : Bool := decide (lineOk c who l)
theorem lineB_no {c : Cf} {who : Int} {l : List Rq} (h : ¬ lineOk c who l) : lineB c who l = false := decide_eq_false h
theorem lineB_yes {c : Cf} {who : Int} {l : List Rq} (h : lineOk c who l) : lineB c who l = true := decide_eq_true h
def sameQ (k l : List Rq) : Bool := decide (k = l)
theorem rqAt_ext {k l : List Rq} (h : k.length = l.length) (h2 : ∀ i, i < k.length → rqAt k i = rqAt l i) : k = l := by
 refine List.ext_getElem h fun i hi hj => ?_
 have := h2 i hi
 simpa [rqAt, List.getElem?_eq_getElem hi, List.getElem?_eq_getElem hj] using this
theorem Line.cap {w : World} {a : Option Addr} {m c : Nat} {l : List Rq} (h : Line w (.slice a m c) l) : m ≤ c ∧ m = l.length := by
 obtain ⟨_, ⟨_, _, hv, _, h0⟩ | ⟨_, _, _, hv, hn, _⟩⟩ := h
 · simp only [Value.slice.injEq] at hv
   omega
 · simp only [Value.slice.injEq] at hv
   omega
end Go.Proofs.YtnkgakhnlbifdaaGreat
namespace Go.Proofs.YtnkgakhnlbifdaaGreat
open Go.RowKit
structure Nt where
 clk : Int
 t : Int
 a : Int
 m : Int
 asks : Int
 try_ : Int
 ph : Int
deriving DecidableEq
abbrev ntV (x : Nt) : Value := .agg #[.int .i64 x.clk, .int .i64 x.t, .int .i64 x.a, .int .i64 x.m, .int .i64 x.asks, .int .i64 x.try_, .int .i64 x.ph]
abbrev ntCells (x : Nt) : Array Value := #[.int .i64 x.clk, .int .i64 x.t, .int .i64 x.a, .int .i64 x.m, .int .i64 x.asks, .int .i64 x.try_, .int .i64 x.ph]
def ntc (x : Nt) (j : Nat) : Value := .int .i64 (if j = 0 then x.clk else if j = 1 then x.t else if j = 2 then x.a else if j = 3 then x.m else if j = 4 then x.asks else if j = 5 then x.try_ else x.ph)
abbrev nt0 : Nt := ⟨0, 0, 0, 0, 0, 0, 0⟩
def ntAt (l : List Nt) (i : Nat) : Nt := l[i]?.getD nt0
def Notes (w : World) (v : Value) (l : List Nt) : Prop := Elems w v 7 l.length (fun i j => ntc (ntAt l i) j)
theorem Notes.later {w w' : World} {v : Value} {l : List Nt} (h : Notes w v l) (hb : Below w.heap.size w w') : Notes w' v l := Elems.later h hb
theorem Notes.nil (w : World) (a : Option Addr) (c : Nat) (h : a = none → c = 0) : Notes w (.slice a 0 c) [] := elems_nil w a c 7 _ h
theorem Notes.big {w : World} {v : Value} {l : List Nt} (h : Notes w v l) : l.length ≤ 9223372036854775807 := h.1
def NtIn (w : World) (b o : Nat) (x : Nt) : Prop :=
 w.cell? ⟨b, o, none⟩ = some (.int .i64 x.clk) ∧ w.cell? ⟨b, o + 1, none⟩ = some (.int .i64 x.t) ∧ w.cell? ⟨b, o + 2, none⟩ = some (.int .i64 x.a) ∧ w.cell? ⟨b, o + 3, none⟩ = some (.int .i64 x.m) ∧
 w.cell? ⟨b, o + 4, none⟩ = some (.int .i64 x.asks) ∧ w.cell? ⟨b, o + 5, none⟩ = some (.int .i64 x.try_) ∧ w.cell? ⟨b, o + 6, none⟩ = some (.int .i64 x.ph)
theorem NtIn.later {w w' : World} {b o : Nat} {x : Nt} (h : NtIn w b o x) (hb : Below w.heap.size w w') : NtIn w' b o x := by
 obtain ⟨h0, h1, h2, h3, h4, h5, h6⟩ := h
 exact ⟨cell_later hb h0, cell_later hb h1, cell_later hb h2, cell_later hb h3, cell_later hb h4, cell_later hb h5, cell_later hb h6⟩
theorem Notes.at {w : World} {a : Option Addr} {m c : Nat} {l : List Nt} (h : Notes w (.slice a m c) l) {i : Nat} (hi : i < l.length) : ∃ b off, a = some ⟨b, off, none⟩ ∧ NtIn w b (off + i * 7) (ntAt l i) := by
 obtain ⟨b, off, rfl, hc⟩ := Elems.at h hi
 refine ⟨b, off, rfl, ?_, ?_, ?_, ?_, ?_, ?_, ?_⟩
 · simpa [ntc] using hc 0 (by omega)
 · rw [Nat.add_assoc]; simpa [ntc] using hc 1 (by omega)
 · rw [Nat.add_assoc]; simpa [ntc] using hc 2 (by omega)
 · rw [Nat.add_assoc]; simpa [ntc] using hc 3 (by omega)
 · rw [Nat.add_assoc]; simpa [ntc] using hc 4 (by omega)
 · rw [Nat.add_assoc]; simpa [ntc] using hc 5 (by omega)
 · rw [Nat.add_assoc]; simpa [ntc] using hc 6 (by omega)
theorem nt_cells {w : World} {g : Nat} {x : Nt} (h : Whole w g 71 (ntCells x)) : NtIn w g 0 x := ⟨h.cell 0, h.cell 1, h.cell 2, h.cell 3, h.cell 4, h.cell 5, h.cell 6⟩
theorem ntAt_ext {k l : List Nt} (h : k.length = l.length) (h2 : ∀ i, i < k.length → ntAt k i = ntAt l i) : k = l := by
 refine List.ext_getElem h fun i hi hj => ?_
 have := h2 i hi
 simpa [ntAt, List.getElem?_eq_getElem hi, List.getElem?_eq_getElem hj] using this
def sameNt (k l : List Nt) : Bool := decide (k = l)
def lkAt (l : List (Int × Int)) (i : Nat) : Int × Int := l[i]?.getD (0, 0)
def lkc (x : Int × Int) (j : Nat) : Value := .int .i64 (if j = 0 then x.1 else x.2)
def Looks (w : World) (v : Value) (l : List (Int × Int)) : Prop := Elems w v 2 l.length (fun i j => lkc (lkAt l i) j)
theorem Looks.later {w w' : World} {v : Value} {l : List (Int × Int)} (h : Looks w v l) (hb : Below w.heap.size w w') : Looks w' v l := Elems.later h hb
theorem Looks.at {w : World} {a : Option Addr} {m c : Nat} {l : List (Int × Int)} (h : Looks w (.slice a m c) l) {i : Nat} (hi : i < l.length) :
 ∃ b off, a = some ⟨b, off, none⟩ ∧ w.cell? ⟨b, off + i * 2, none⟩ = some (.int .i64 (lkAt l i).1) ∧ w.cell? ⟨b, off + i * 2 + 1, none⟩ = some (.int .i64 (lkAt l i).2) := by
 obtain ⟨b, off, rfl, hc⟩ := Elems.at h hi
 exact ⟨b, off, rfl, by simpa [lkc] using hc 0 (by omega), by rw [Nat.add_assoc]; simpa [lkc] using hc 1 (by omega)⟩
structure Ml where
 fr : Int
 to : Int
 clk : Int
 rows : List Rw
 t : Int
 a : Int
 m : Int
 asks : Int
 try_ : Int
 ph : Int
 echo : List (Int × Int)
def noteOf (x : Ml) : Nt := ⟨x.clk, x.t, x.a, x.m, x.asks, x.try_, x.ph⟩
def MailIn (w : World) (a1 : Option Addr) (m1 c1 : Nat) (a2 : Option Addr) (m2 c2 : Nat) (x : Ml) : Prop :=
 m1 = x.rows.length ∧ Books w (.slice a1 m1 c1) x.rows ∧ m2 = x.echo.length ∧ Looks w (.slice a2 m2 c2) x.echo
theorem MailIn.later {w w' : World} {a1 : Option Addr} {m1 c1 : Nat} {a2 : Option Addr} {m2 c2 : Nat} {x : Ml} (h : MailIn w a1 m1 c1 a2 m2 c2 x) (hb : Below w.heap.size w w') : MailIn w' a1 m1 c1 a2 m2 c2 x :=
 ⟨h.1, h.2.1.later hb, h.2.2.1, h.2.2.2.later hb⟩
def lookOk (t p : Int) : Prop := (t = 0 ∧ p = 0) ∨ (0 < t ∧ t ≤ 1125899906842624 ∧ 0 < p ∧ p < 3)
instance (t p : Int) : Decidable (lookOk t p) := by unfold lookOk; exact inferInstance
def lookB (t p : Int) : Bool := decide (lookOk t p)
def noHead (x : Nt) : Bool := decide (x.t = 0 ∧ x.a = 0 ∧ x.m = 0)
def hasHead (c : Cf) (who : Int) (x : Nt) : Bool := mayB x.t x.a c.n && decide (x.a = who ∧ 0 < x.m ∧ x.m ≤ 1099511627776)
def noteB (c : Cf) (who : Int) (x : Nt) : Bool := decide (0 ≤ x.clk ∧ x.clk ≤ 1125899906842624) && ((noHead x || hasHead c who x) && (decide (0 ≤ x.asks ∧ x.asks ≤ c.r) && lookB x.try_ x.ph))
def notesOk (c : Cf) (who : Int) (l : List Nt) : Prop := cfOk c ∧ (0 ≤ who ∧ who < c.n) ∧ (l.length : Int) = c.n ∧ ∀ i, i < l.length → noteB c i (ntAt l i) = true ∧ ((i : Int) = who → ntAt l i = nt0)
instance (c : Cf) (who : Int) (l : List Nt) : Decidable (notesOk c who l) := by unfold notesOk; exact inferInstance
def notesB (c : Cf) (who : Int) (l : List Nt) : Bool := decide (notesOk c who l)
def mailOk (c : Cf) (x : Ml) : Prop :=
 rightOk c x.rows ∧ (0 ≤ x.fr ∧ x.fr < c.n) ∧ (0 ≤ x.to ∧ x.to < c.n) ∧ x.fr ≠ x.to ∧ x.clk ≠ 0 ∧ (x.echo.length : Int) = c.n ∧
 (∀ i, i < x.echo.length → lookB (lkAt x.echo i).1 (lkAt x.echo i).2 = true ∧ ((i : Int) = x.fr → ¬ 0 < (lkAt x.echo i).2)) ∧ noteB c x.fr (noteOf x) = true
instance (c : Cf) (x : Ml) : Decidable (mailOk c x) := by unfold mailOk; exact inferInstance
theorem notesB_no {c : Cf} {who : Int} {l : List Nt} (h : ¬ notesOk c who l) : notesB c who l = false := decide_eq_false h
end Go.Proofs.YtnkgakhnlbifdaaGreat
