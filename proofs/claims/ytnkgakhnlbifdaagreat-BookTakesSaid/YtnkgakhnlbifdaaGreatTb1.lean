/- Parts, as far as BookTakesCards reaches them, of: OwnApart, OwnBooks, OwnSet, RightsWords, StampWords, LineWords, ClaimWords, OpenData, BooksReach, LookOpen, ClaimOpen, AuditWords, BookWords, BookOpen, PackMath. No law is proved here. -/
import Derived.Test.YtnkgakhnlbifdaaGreatTb0
import Derived.WalkKit
import Derived.WalkLawsBesides
import Derived.LoopTactic
import Derived.IntWalk
import Derived.Deep.QuietTactic
import Derived.BigQuiet
import Derived.Lib.SmallJoins
import Derived.SizedLaws
namespace Go.Proofs.YtnkgakhnlbifdaaGreat
open Go.RowKit
theorem own_apart {w : World} {base b2 : Nat} {e e2 : TypeId} {s s2 n n2 : Nat} {v v2 : Value} {xs xs2 : List Value} (h : w.ownsRow base e s v n xs) (h2 : w.ownsRow b2 e2 s2 v2 n2 xs2) (he : e ≠ e2) {b : Nat} (hv : v.ownBlock = some b) : v2.ownBlock ≠ some b := by
 intro hv2
 rcases h.2 with ⟨rfl, _⟩ | ⟨g, cap, cur, rfl, _, hg, _⟩
 · simp [Value.ownBlock] at hv
 · rcases h2.2 with ⟨rfl, _⟩ | ⟨g', cap', cur', rfl, _, hg', _⟩
   · simp [Value.ownBlock] at hv2
   · obtain rfl : g = b := by simpa [Value.ownBlock] using hv
     obtain rfl : g' = g := by simpa [Value.ownBlock] using hv2
     rw [hg] at hg'
     simp at hg'
     exact he hg'.2
theorem own_kept_apart {w w' : World} {base b2 : Nat} {e e2 : TypeId} {s s2 n n2 : Nat} {v v2 : Value} {xs xs2 : List Value} (h : w.ownsRow base e s v n xs) (h2 : w.ownsRow b2 e2 s2 v2 n2 xs2) (he : e2 ≠ e) (hG : w.grownBy w' v2.ownBlock) : w'.ownsRow base e s v n xs := by
 cases hv2 : v2.ownBlock with
 | none => rw [hv2] at hG; exact h.kept hG (by cases v.ownBlock <;> simp)
 | some b =>
   have := own_apart h2 h he hv2
   rw [hv2] at hG
   exact h.kept hG (.inr this)
end Go.Proofs.YtnkgakhnlbifdaaGreat
namespace Go.Proofs.YtnkgakhnlbifdaaGreat
open Go.RowKit
theorem info_row : (Tryz.prog.info? 109).map (fun i => (i.zero, i.size, i.bytes)) = some (some (.agg #[.int .i64 0, .int .i64 0, .slice none 0 0]), 3, 40) := by kernel_rfl
def OwnG (w : World) (base : Nat) (v : Value) (l : List Rw) (g : Nat → Value) : Prop :=
 w.ownsRow base 109 3 v l.length (flatCells 3 l.length (rowCell l g)) ∧
  (∀ k, k < l.length → (∃ A C, g k = .slice A (at_ l k).out.length C) ∧ w.ownsRow base 2 1 (g k) (at_ l k).out.length ((at_ l k).out.map (Value.int .i64))) ∧
  ∀ i j b, i < l.length → j < l.length → (g i).ownBlock = some b → (g j).ownBlock = some b → i = j
def OwnBooks (w : World) (base : Nat) (v : Value) (l : List Rw) : Prop := ∃ g : Nat → Value, OwnG w base v l g
theorem OwnBooks.books {w : World} {base : Nat} {v : Value} {l : List Rw} (h : OwnBooks w base v l) (hb : l.length ≤ 9223372036854775807) (hl : ∀ k, k < l.length → (at_ l k).out.length ≤ 9223372036854775807) :
 ∃ A C, v = .slice A l.length C ∧ Books w (.slice A l.length C) l := by
 obtain ⟨g, h1, h2, _⟩ := h
 obtain ⟨A, C, rfl, _, hE⟩ := elems_of_own h1 hb
 refine ⟨A, C, rfl, g, hE, fun k hk => ?_⟩
 obtain ⟨⟨A', C', e⟩, h4⟩ := h2 k hk
 obtain ⟨A2, C2, e2, hN⟩ := nums_of_own h4 rfl (hl k hk)
 exact ⟨A', C', e, by rw [e2]; exact hN⟩
theorem OwnG.later {w w' : World} {base : Nat} {v : Value} {l : List Rw} {g : Nat → Value} (h : OwnG w base v l g) (hb : Below w.heap.size w w') : OwnG w' base v l g := by
 obtain ⟨h1, h2, h3⟩ := h
 exact ⟨own_later h1 hb, fun k hk => ⟨(h2 k hk).1, own_later (h2 k hk).2 hb⟩, h3⟩
theorem OwnBooks.later {w w' : World} {base : Nat} {v : Value} {l : List Rw} (h : OwnBooks w base v l) (hb : Below w.heap.size w w') : OwnBooks w' base v l := ⟨h.choose, h.choose_spec.later hb⟩
theorem ownG_nil (w : World) (base : Nat) (g : Nat → Value) : OwnG w base (.slice none 0 0) [] g :=
 ⟨World.ownsRow_nil _ _ _ _, fun k hk => absurd hk (by simp), fun i j b hi => absurd hi (by simp)⟩
theorem ownBooks_nil (w : World) (base : Nat) : OwnBooks w base (.slice none 0 0) [] := ⟨fun _ => .bool false, ownG_nil _ _ _⟩
theorem at_append_lt {l : List Rw} {r : Rw} {k : Nat} (h : k < l.length) : at_ (l ++ [r]) k = at_ l k := by simp [at_, List.getElem?_append_left h]
theorem at_append_eq (l : List Rw) (r : Rw) : at_ (l ++ [r]) l.length = r := by simp [at_]
end Go.Proofs.YtnkgakhnlbifdaaGreat
namespace Go.Proofs.YtnkgakhnlbifdaaGreat
open Go.RowKit
theorem flat_set {sz n i j : Nat} {f f' : Nat → Nat → Value} {x : Value} (hi : i < n) (hj : j < sz) (hf : ∀ p q, p < n → q < sz → f' p q = if p = i ∧ q = j then x else f p q) :
 (flatCells sz n f).set (i * sz + j) x = flatCells sz n f' := by
 have hlt : i * sz + j < n * sz := by
  have : (i + 1) * sz ≤ n * sz := Nat.mul_le_mul_right sz hi
  rw [Nat.succ_mul] at this
  omega
 apply List.ext_getElem?
 intro m
 by_cases hm : m < n * sz
 · have hs : 0 < sz := by omega
   have e := Nat.div_add_mod m sz
   rw [Nat.mul_comm] at e
   have hq := Nat.mod_lt m hs
   have hp : m / sz < n := Nat.div_lt_of_lt_mul (by rw [Nat.mul_comm]; exact hm)
   have h2 := flat_at sz n f' (m / sz) (m % sz) hp hq
   have h1 := flat_at sz n f (m / sz) (m % sz) hp hq
   rw [e] at h1 h2
   rw [h2, hf _ _ hp hq, List.getElem?_set]
   by_cases hmi : i * sz + j = m
   · have h3 : m / sz = i := by
      rw [← hmi, Nat.mul_comm, Nat.mul_add_div hs, Nat.div_eq_of_lt hj]; rfl
     have h4 : m % sz = j := by
      rw [← hmi, Nat.mul_comm, Nat.mul_add_mod, Nat.mod_eq_of_lt hj]
     rw [if_pos hmi, if_pos (by rw [flat_length]; exact hlt), if_pos ⟨h3, h4⟩]
   · rw [if_neg hmi, if_neg (fun h => hmi (by rw [← h.1, ← h.2, e])), h1]
 · rw [List.getElem?_eq_none (by rw [List.length_set, flat_length]; omega), List.getElem?_eq_none (by rw [flat_length]; omega)]
theorem own_set {w : World} {base : Nat} {e : TypeId} {sz n : Nat} {v : Value} {f f' : Nat → Nat → Value} {x : Value} (h : w.ownsRow base e sz v n (flatCells sz n f)) {i j : Nat} (hi : i < n) (hj : j < sz)
 (hf : ∀ p q, p < n → q < sz → f' p q = if p = i ∧ q = j then x else f p q) :
 ∃ b cap, v = .slice (some ⟨b, 0, none⟩) n cap ∧ base ≤ b ∧ b < w.heap.size ∧ (∀ o, w.frozen? ⟨b, o, none⟩ = false) ∧ (∀ p q, p < n → q < sz → w.cell? ⟨b, p * sz + q, none⟩ = some (f p q)) ∧
   (w.setCell ⟨b, i * sz + j, none⟩ x).ownsRow base e sz v n (flatCells sz n f') := by
 obtain ⟨hl, ⟨_, h0⟩ | ⟨g, cap, cur, rfl, hb, hh, h1, h2, h3, h4⟩⟩ := h
 · omega
 · refine ⟨g, cap, rfl, hb, (Array.getElem?_eq_some_iff.1 hh).1, fun o => Whole.free (w := w) (g := g) (t := e) (cs := cur) hh o, fun p q hp hq => ?_, flat_length _ _ _, Or.inr ⟨g, cap, cur.setIfInBounds (i * sz + j) x, rfl, hb, ?_, h1, h2, ?_, ?_⟩⟩
   · have hlt : p * sz + q < n * sz := by
      have : (p + 1) * sz ≤ n * sz := Nat.mul_le_mul_right sz hp
      rw [Nat.succ_mul] at this
      omega
     rw [Whole.cell (w := w) (g := g) (t := e) (cs := cur) hh, ← flat_at sz n f p q hp hq, ← h4, List.getElem?_take_of_lt hlt, Array.getElem?_toList]
   · exact Whole.set (w := w) (g := g) (t := e) (cs := cur) hh _ _
   · rw [Array.size_setIfInBounds]; exact h3
   · rw [Array.toList_setIfInBounds, List.take_set, h4]
     exact flat_set hi hj hf
theorem at_set {l : List Rw} {k : Nat} {r : Rw} (hk : k < l.length) (p : Nat) : at_ (l.set k r) p = if p = k then r else at_ l p := by
 unfold at_
 rw [List.getElem?_set]
 by_cases h : k = p
 · subst h; simp [hk]
 · rw [if_neg h, if_neg (fun e => h e.symm)]
end Go.Proofs.YtnkgakhnlbifdaaGreat
namespace Go.Proofs.YtnkgakhnlbifdaaGreat
open Go.RowKit
def shareV (c : Cf) (who : Int) : Int := if cfOk c ∧ 0 ≤ who ∧ who < c.n then c.k / c.n + (if who < c.k - c.k / c.n * c.n then 1 else 0) else 0
theorem shareV_no {c : Cf} {who : Int} (h : ¬ (cfOk c ∧ 0 ≤ who ∧ who < c.n)) : shareV c who = 0 := if_neg h
def flow (l : List Rw) (who : Nat) : Nat → Int
 | 0 => 0
 | k + 1 => flow l who k + ((at_ l k).out[who]?.getD 0 - (at_ l who).out[k]?.getD 0)
def rightsV (c : Cf) (l : List Rw) (who : Nat) : Int := shareV c who + (at_ l who).inc - (at_ l who).use + flow l who l.length
def Fits (l : List Rw) : Prop := ∀ k, k < l.length → (at_ l k).out.length = l.length ∧ 0 ≤ (at_ l k).inc ∧ (at_ l k).inc ≤ 1099511627776 ∧ 0 ≤ (at_ l k).use ∧ (at_ l k).use ≤ 1099511627776 ∧
 ∀ j, j < l.length → 0 ≤ (at_ l k).out[j]?.getD 0 ∧ (at_ l k).out[j]?.getD 0 ≤ 1125899906842624
theorem flow_bound {l : List Rw} (hF : Fits l) {who : Nat} (hw : who < l.length) : ∀ k, k ≤ l.length → -(1125899906842624 * (k : Int)) ≤ flow l who k ∧ flow l who k ≤ 1125899906842624 * (k : Int)
 | 0, _ => by simp [flow]
 | k + 1, hk => by
   have ih := flow_bound hF hw k (by omega)
   obtain ⟨_, _, _, _, _, h1⟩ := hF k (by omega)
   obtain ⟨_, _, _, _, _, h2⟩ := hF who hw
   have h3 := h1 who hw
   have h4 := h2 k (by omega)
   simp only [flow]
   omega
theorem shareV_bound (c : Cf) (who : Int) : 0 ≤ shareV c who ∧ shareV c who ≤ 1099511627777 := by
 unfold shareV
 split
 · rename_i h
   obtain ⟨⟨g1, _, _, _, _, _, _, _, g9, g10, g11⟩, _, _⟩ := h
   have := Int.mul_nonneg (show 0 ≤ c.n by omega) g10
   have := Int.ediv_nonneg g9 (show 0 ≤ c.n by omega)
   have := Int.ediv_le_self c.n g9
   split <;> omega
 · omega
theorem fits_iff (la : List Int) (who : Int) : fits (la.zip (mosts who la.length)) = true ↔ ∀ k, k < la.length → 0 ≤ la[k]?.getD 0 ∧ la[k]?.getD 0 ≤ mostOf who k := by
 unfold fits
 rw [List.all_eq_true]
 constructor
 · intro h k hk
   have := h ((la.zip (mosts who la.length))[k]'(by rw [List.length_zip, mosts_length]; omega)) (List.getElem_mem _)
   have := of_decide_eq_true this
   rw [List.getElem_zip] at this
   have e := mosts_at who la.length k hk
   rw [List.getElem?_eq_getElem (by rw [mosts_length]; exact hk)] at e
   rw [List.getElem?_eq_getElem hk]
   simp only [Option.getD_some] at e ⊢
   rw [e] at this
   exact this
 · intro h x hx
   obtain ⟨k, hk, rfl⟩ := List.getElem_of_mem hx
   rw [List.length_zip, mosts_length] at hk
   have := h k (by omega)
   apply decide_eq_true
   rw [List.getElem_zip]
   have e := mosts_at who la.length k (by omega)
   rw [List.getElem?_eq_getElem (by rw [mosts_length]; omega)] at e
   rw [List.getElem?_eq_getElem (show k < la.length by omega)] at this
   simp only [Option.getD_some] at e this
   rw [e]
   exact this
theorem mayR_iff (i u : Int) (la : List Int) (n who : Int) : mayR i u la n who = true ↔ (la.length : Int) = n ∧ 0 ≤ who ∧ who < n ∧ (0 ≤ i ∧ i ≤ 1099511627776) ∧ (0 ≤ u ∧ u ≤ 1099511627776) ∧ ∀ k, k < la.length → 0 ≤ la[k]?.getD 0 ∧ la[k]?.getD 0 ≤ mostOf who k := by
 unfold mayR countB
 rw [Bool.and_eq_true, Bool.and_eq_true, Bool.and_eq_true, decide_eq_true_eq, decide_eq_true_eq, decide_eq_true_eq, fits_iff]
 constructor
 · rintro ⟨⟨⟨h1, h2, h3⟩, h4, h5⟩, h6⟩
   exact ⟨h1, h2, h3, h4, h5, h6⟩
 · rintro ⟨h1, h2, h3, h4, h5, h6⟩
   exact ⟨⟨⟨h1, h2, h3⟩, h4, h5⟩, h6⟩
theorem mayR_no {i u : Int} {la : List Int} {n who : Int} (h : ¬ ((la.length : Int) = n ∧ 0 ≤ who ∧ who < n ∧ (0 ≤ i ∧ i ≤ 1099511627776) ∧ (0 ≤ u ∧ u ≤ 1099511627776) ∧ ∀ k, k < la.length → 0 ≤ la[k]?.getD 0 ∧ la[k]?.getD 0 ≤ mostOf who k)) : mayR i u la n who = false := by
 cases e : mayR i u la n who with
 | false => rfl
 | true => exact absurd ((mayR_iff _ _ _ _ _).1 e) h
def rightOk (c : Cf) (l : List Rw) : Prop := cfOk c ∧ (l.length : Int) = c.n ∧ (∀ i, i < l.length → mayR (at_ l i).inc (at_ l i).use (at_ l i).out c.n i = true ∧ (at_ l i).inc ≤ c.c) ∧ ∀ i, i < l.length → 0 ≤ rightsV c l i
instance (c : Cf) (l : List Rw) : Decidable (rightOk c l) := by unfold rightOk; exact inferInstance
def rightB (c : Cf) (l : List Rw) : Bool := decide (rightOk c l)
theorem rightB_no {c : Cf} {l : List Rw} (h : ¬ rightOk c l) : rightB c l = false := decide_eq_false h
theorem rightB_ok {c : Cf} {l : List Rw} (h : rightB c l = true) : rightOk c l := of_decide_eq_true h
theorem fits_of_may {l : List Rw} (h : ∀ i, i < l.length → mayR (at_ l i).inc (at_ l i).use (at_ l i).out (l.length : Int) i = true) : Fits l := by
 intro k hk
 obtain ⟨h1, h2, h3, ⟨h4, h5⟩, ⟨h6, h7⟩, h8⟩ := (mayR_iff _ _ _ _ _).1 (h k hk)
 refine ⟨by omega, h4, h5, h6, h7, fun j hj => ?_⟩
 have h9 := h8 j (by omega)
 unfold mostOf at h9
 split at h9 <;> omega
theorem rightOk.fits {c : Cf} {l : List Rw} (h : rightOk c l) : Fits l := fits_of_may fun i hi => by rw [h.2.1]; exact (h.2.2.1 i hi).1
theorem rightOk.len {c : Cf} {l : List Rw} (h : rightOk c l) : l.length ≤ 16 := by have := h.1.2.1; have := h.2.1; omega
def sameL (la lb : List Rw) : Bool := decide (la.length = lb.length ∧ ∀ k, k < la.length → sameB (at_ la k).inc (at_ la k).use (at_ la k).out (at_ lb k).inc (at_ lb k).use (at_ lb k).out = true)
theorem sameL_no {la lb : List Rw} (h : ¬ (la.length = lb.length ∧ ∀ k, k < la.length → sameB (at_ la k).inc (at_ la k).use (at_ la k).out (at_ lb k).inc (at_ lb k).use (at_ lb k).out = true)) : sameL la lb = false := decide_eq_false h
theorem sameL_self (l : List Rw) : sameL l l = true := decide_eq_true ⟨rfl, fun _ _ => decide_eq_true ⟨rfl, rfl, rfl⟩⟩
theorem sameL_eq {la lb : List Rw} (h : sameL la lb = true) : la = lb := by
 obtain ⟨h1, h2⟩ := of_decide_eq_true h
 apply List.ext_getElem h1
 intro k hk1 hk2
 have := of_decide_eq_true (h2 k hk1)
 rw [at_lt hk1, at_lt hk2] at this
 obtain ⟨e1, e2, e3⟩ := this
 cases ha : la[k]; cases hb : lb[k]
 rw [ha, hb] at e1 e2 e3
 simp only at e1 e2 e3
 rw [e1, e2, e3]
theorem take_at {l : List Rw} {k : Nat} (h : k < l.length) : l.take (k + 1) = l.take k ++ [at_ l k] := by
 rw [List.take_succ_eq_append_getElem h, at_lt h]
theorem one_row {w : World} {g : Nat} {i u : Int} {v : Value} (h : Whole w g 109 #[.int .i64 i, .int .i64 u, v]) : Elems w (.slice (some ⟨g, 0, none⟩) 1 1) 3 1 (fun _ j => if j = 0 then .int .i64 i else if j = 1 then .int .i64 u else v) := by
 refine ⟨by decide, Or.inr ⟨g, 0, 1, rfl, Nat.le_refl _, fun i' j hi hj => ?_⟩⟩
 obtain rfl : i' = 0 := by omega
 rw [h.cell]
 match j, hj with
 | 0, _ => rfl
 | 1, _ => rfl
 | 2, _ => rfl
def zeroRow (n : Nat) : Rw := ⟨0, 0, List.replicate n 0⟩
def newL (c : Cf) : List Rw := if cfOk c then List.replicate c.n.toNat (zeroRow c.n.toNat) else []
theorem made_flat (n : Nat) : (madeCells #[.int .i64 0] n).toList = (List.replicate n (0 : Int)).map (Value.int .i64) := by
 unfold madeCells
 apply List.ext_getElem
 · simp
 · intro i h1 h2
   simp [Nat.mod_one]
def Num (w : World) (x : Int) (e : Ending) (w' : World) : Prop := e = .returned (.int .i64 x) ∧ Below w.heap.size w w'
def amongB (c : Cf) (who : Int) : Bool := decide (0 ≤ who ∧ who < c.n)
theorem amongB_yes {c : Cf} {who : Int} (h : 0 ≤ who ∧ who < c.n) : amongB c who = true := decide_eq_true h
theorem amongB_no {c : Cf} {who : Int} (h : ¬ (0 ≤ who ∧ who < c.n)) : amongB c who = false := decide_eq_false h
theorem rem_eq {k n : Int} : k % n = k - k / n * n := by
 have := Int.mul_ediv_add_emod k n
 rw [Int.mul_comm] at this
 omega
def sumN (g : Nat → Int) : Nat → Int
 | 0 => 0
 | k + 1 => sumN g k + g k
theorem sumN_bound {g : Nat → Int} {b : Int} {n : Nat} (h : ∀ k, k < n → -b ≤ g k ∧ g k ≤ b) : ∀ k, k ≤ n → -(b * (k : Int)) ≤ sumN g k ∧ sumN g k ≤ b * (k : Int)
 | 0, _ => by simp [sumN]
 | k + 1, hk => by
   have ih := sumN_bound h k (by omega)
   have h1 := h k (by omega)
   simp only [sumN]
   rw [show ((k + 1 : Nat) : Int) = (k : Int) + 1 by omega, Int.mul_add, Int.mul_one]
   omega
end Go.Proofs.YtnkgakhnlbifdaaGreat
namespace Go.Proofs.YtnkgakhnlbifdaaGreat
open Go.RowKit
abbrev stampV (t w : Int) : Value := .agg #[.int .i64 t, .int .i64 w]
def olderB (t w u v : Int) : Bool := decide (t < u ∨ (t = u ∧ w < v))
def mayB (t w n : Int) : Bool := decide (1 ≤ t ∧ t ≤ 1125899906842624 ∧ 0 ≤ w ∧ w < n)
theorem olderB_yes {t w u v : Int} (h : t < u ∨ (t = u ∧ w < v)) : olderB t w u v = true := by simpa [olderB] using h
theorem olderB_no {t w u v : Int} (h : ¬ (t < u ∨ (t = u ∧ w < v))) : olderB t w u v = false := by simpa [olderB] using h
theorem mayB_yes {t w n : Int} (h : 1 ≤ t ∧ t ≤ 1125899906842624 ∧ 0 ≤ w ∧ w < n) : mayB t w n = true := by simpa [mayB] using h
theorem mayB_no {t w n : Int} (h : ¬ (1 ≤ t ∧ t ≤ 1125899906842624 ∧ 0 ≤ w ∧ w < n)) : mayB t w n = false := by unfold mayB; exact decide_eq_false h
end Go.Proofs.YtnkgakhnlbifdaaGreat
namespace Go.Proofs.YtnkgakhnlbifdaaGreat
open Go.RowKit
structure Rq where
 t : Int
 a : Int
 m : Int
deriving DecidableEq
abbrev rqV (x : Rq) : Value := .agg #[.int .i64 x.t, .int .i64 x.a, .int .i64 x.m]
abbrev rqCells (x : Rq) : Array Value := #[.int .i64 x.t, .int .i64 x.a, .int .i64 x.m]
def rqc (x : Rq) (j : Nat) : Value := .int .i64 (if j = 0 then x.t else if j = 1 then x.a else x.m)
def rqAt (l : List Rq) (i : Nat) : Rq := l[i]?.getD ⟨0, 0, 0⟩
def Line (w : World) (v : Value) (l : List Rq) : Prop := Elems w v 3 l.length (fun i j => rqc (rqAt l i) j)
theorem Line.later {w w' : World} {v : Value} {l : List Rq} (h : Line w v l) (hb : Below w.heap.size w w') : Line w' v l := Elems.later h hb
theorem Line.nil (w : World) (a : Option Addr) (c : Nat) (h : a = none → c = 0) : Line w (.slice a 0 c) [] := elems_nil w a c 3 _ h
theorem Line.big {w : World} {v : Value} {l : List Rq} (h : Line w v l) : l.length ≤ 9223372036854775807 := h.1
theorem Line.at {w : World} {a : Option Addr} {m c : Nat} {l : List Rq} (h : Line w (.slice a m c) l) {i : Nat} (hi : i < l.length) :
 ∃ b off, a = some ⟨b, off, none⟩ ∧ w.cell? ⟨b, off + i * 3, none⟩ = some (.int .i64 (rqAt l i).t) ∧ w.cell? ⟨b, off + i * 3 + 1, none⟩ = some (.int .i64 (rqAt l i).a) ∧ w.cell? ⟨b, off + i * 3 + 2, none⟩ = some (.int .i64 (rqAt l i).m) := by
 obtain ⟨b, off, rfl, hc⟩ := Elems.at h hi
 exact ⟨b, off, rfl, by simpa [rqc] using hc 0 (by omega), by rw [Nat.add_assoc]; simpa [rqc] using hc 1 (by omega), by rw [Nat.add_assoc]; simpa [rqc] using hc 2 (by omega)⟩
def oneOk (c : Cf) (who : Int) (x : Rq) : Prop := (1 ≤ x.t ∧ x.t ≤ 1125899906842624 ∧ 0 ≤ x.a ∧ x.a < c.n) ∧ x.a = who ∧ 1 ≤ x.m ∧ x.m ≤ 1099511627776
def oneB (c : Cf) (who : Int) (x : Rq) : Bool := mayB x.t x.a c.n && decide (x.a = who ∧ 1 ≤ x.m ∧ x.m ≤ 1099511627776)
theorem oneB_iff {c : Cf} {who : Int} {x : Rq} : oneB c who x = true ↔ oneOk c who x := by simp [oneB, oneOk, mayB]
def rqOld (x y : Rq) : Bool := olderB x.t x.a y.t y.a
def lineOk (c : Cf) (who : Int) (l : List Rq) : Prop :=
 cfOk c ∧ (0 ≤ who ∧ who < c.n) ∧ (l.length : Int) ≤ c.q ∧ ∀ i, i < l.length → oneB c who (rqAt l i) = true ∧ (0 < i → rqOld (rqAt l (i - 1)) (rqAt l i) = true)
instance (c : Cf) (who : Int) (l : List Rq) : Decidable (lineOk c who l) := by unfold lineOk; exact inferInstance
def lineB (c : Cf) (who : Int) (l : List Rq) : Bool := decide (lineOk c who l)
theorem lineB_no {c : Cf} {who : Int} {l : List Rq} (h : ¬ lineOk c who l) : lineB c who l = false := decide_eq_false h
theorem lineB_yes {c : Cf} {who : Int} {l : List Rq} (h : lineOk c who l) : lineB c who l = true := decide_eq_true h
def sameQ (k l : List Rq) : Bool := decide (k = l)
theorem rqAt_ext {k l : List Rq} (h : k.length = l.length) (h2 : ∀ i, i < k.length → rqAt k i = rqAt l i) : k = l := by
 refine List.ext_getElem h fun i hi hj => ?_
 have := h2 i hi
 simpa [rqAt, List.getElem?_eq_getElem hi, List.getElem?_eq_getElem hj] using this
theorem Line.cap {w : World} {a : Option Addr} {m c : Nat} {l : List Rq} (h : Line w (.slice a m c) l) : m ≤ c ∧ m = l.length := by
 obtain ⟨_, ⟨_, _, hv, _, h0⟩ | ⟨_, _, _, hv, hn, _⟩⟩ := h
 · simp only [Value.slice.injEq] at hv
   omega
 · simp only [Value.slice.injEq] at hv
   omega
end Go.Proofs.YtnkgakhnlbifdaaGreat
namespace Go.Proofs.YtnkgakhnlbifdaaGreat
open Go.RowKit
structure Nt where
 clk : Int
 t : Int
 a : Int
 m : Int
 asks : Int
 try_ : Int
 ph : Int
deriving DecidableEq
abbrev ntV (x : Nt) : Value := .agg #[.int .i64 x.clk, .int .i64 x.t, .int .i64 x.a, .int .i64 x.m, .int .i64 x.asks, .int .i64 x.try_, .int .i64 x.ph]
abbrev ntCells (x : Nt) : Array Value := #[.int .i64 x.clk, .int .i64 x.t, .int .i64 x.a, .int .i64 x.m, .int .i64 x.asks, .int .i64 x.try_, .int .i64 x.ph]
def ntc (x : Nt) (j : Nat) : Value := .int .i64 (if j = 0 then x.clk else if j = 1 then x.t else if j = 2 then x.a else if j = 3 then x.m else if j = 4 then x.asks else if j = 5 then x.try_ else x.ph)
abbrev nt0 : Nt := ⟨0, 0, 0, 0, 0, 0, 0⟩
def ntAt (l : List Nt) (i : Nat) : Nt := l[i]?.getD nt0
def Notes (w : World) (v : Value) (l : List Nt) : Prop := Elems w v 7 l.length (fun i j => ntc (ntAt l i) j)
theorem Notes.later {w w' : World} {v : Value} {l : List Nt} (h : Notes w v l) (hb : Below w.heap.size w w') : Notes w' v l := Elems.later h hb
theorem Notes.nil (w : World) (a : Option Addr) (c : Nat) (h : a = none → c = 0) : Notes w (.slice a 0 c) [] := elems_nil w a c 7 _ h
theorem Notes.big {w : World} {v : Value} {l : List Nt} (h : Notes w v l) : l.length ≤ 9223372036854775807 := h.1
def NtIn (w : World) (b o : Nat) (x : Nt) : Prop :=
 w.cell? ⟨b, o, none⟩ = some (.int .i64 x.clk) ∧ w.cell? ⟨b, o + 1, none⟩ = some (.int .i64 x.t) ∧ w.cell? ⟨b, o + 2, none⟩ = some (.int .i64 x.a) ∧ w.cell? ⟨b, o + 3, none⟩ = some (.int .i64 x.m) ∧
 w.cell? ⟨b, o + 4, none⟩ = some (.int .i64 x.asks) ∧ w.cell? ⟨b, o + 5, none⟩ = some (.int .i64 x.try_) ∧ w.cell? ⟨b, o + 6, none⟩ = some (.int .i64 x.ph)
theorem NtIn.later {w w' : World} {b o : Nat} {x : Nt} (h : NtIn w b o x) (hb : Below w.heap.size w w') : NtIn w' b o x := by
 obtain ⟨h0, h1, h2, h3, h4, h5, h6⟩ := h
 exact ⟨cell_later hb h0, cell_later hb h1, cell_later hb h2, cell_later hb h3, cell_later hb h4, cell_later hb h5, cell_later hb h6⟩
theorem Notes.at {w : World} {a : Option Addr} {m c : Nat} {l : List Nt} (h : Notes w (.slice a m c) l) {i : Nat} (hi : i < l.length) : ∃ b off, a = some ⟨b, off, none⟩ ∧ NtIn w b (off + i * 7) (ntAt l i) := by
 obtain ⟨b, off, rfl, hc⟩ := Elems.at h hi
 refine ⟨b, off, rfl, ?_, ?_, ?_, ?_, ?_, ?_, ?_⟩
 · simpa [ntc] using hc 0 (by omega)
 · rw [Nat.add_assoc]; simpa [ntc] using hc 1 (by omega)
 · rw [Nat.add_assoc]; simpa [ntc] using hc 2 (by omega)
 · rw [Nat.add_assoc]; simpa [ntc] using hc 3 (by omega)
 · rw [Nat.add_assoc]; simpa [ntc] using hc 4 (by omega)
 · rw [Nat.add_assoc]; simpa [ntc] using hc 5 (by omega)
 · rw [Nat.add_assoc]; simpa [ntc] using hc 6 (by omega)
theorem nt_cells {w : World} {g : Nat} {x : Nt} (h : Whole w g 71 (ntCells x)) : NtIn w g 0 x := ⟨h.cell 0, h.cell 1, h.cell 2, h.cell 3, h.cell 4, h.cell 5, h.cell 6⟩
theorem ntAt_ext {k l : List Nt} (h : k.length = l.length) (h2 : ∀ i, i < k.length → ntAt k i = ntAt l i) : k = l := by
 refine List.ext_getElem h fun i hi hj => ?_
 have := h2 i hi
 simpa [ntAt, List.getElem?_eq_getElem hi, List.getElem?_eq_getElem hj] using this
def sameNt (k l : List Nt) : Bool := decide (k = l)
def lookOk (t p : Int) : Prop := (t = 0 ∧ p = 0) ∨ (0 < t ∧ t ≤ 1125899906842624 ∧ 0 < p ∧ p < 3)
instance (t p : Int) : Decidable (lookOk t p) := by unfold lookOk; exact inferInstance
def lookB (t p : Int) : Bool := decide (lookOk t p)
def noHead (x : Nt) : Bool := decide (x.t = 0 ∧ x.a = 0 ∧ x.m = 0)
def hasHead (c : Cf) (who : Int) (x : Nt) : Bool := mayB x.t x.a c.n && decide (x.a = who ∧ 0 < x.m ∧ x.m ≤ 1099511627776)
def noteB (c : Cf) (who : Int) (x : Nt) : Bool := decide (0 ≤ x.clk ∧ x.clk ≤ 1125899906842624) && ((noHead x || hasHead c who x) && (decide (0 ≤ x.asks ∧ x.asks ≤ c.r) && lookB x.try_ x.ph))
def notesOk (c : Cf) (who : Int) (l : List Nt) : Prop := cfOk c ∧ (0 ≤ who ∧ who < c.n) ∧ (l.length : Int) = c.n ∧ ∀ i, i < l.length → noteB c i (ntAt l i) = true ∧ ((i : Int) = who → ntAt l i = nt0)
instance (c : Cf) (who : Int) (l : List Nt) : Decidable (notesOk c who l) := by unfold notesOk; exact inferInstance
def notesB (c : Cf) (who : Int) (l : List Nt) : Bool := decide (notesOk c who l)
theorem notesB_no {c : Cf} {who : Int} {l : List Nt} (h : ¬ notesOk c who l) : notesB c who l = false := decide_eq_false h
end Go.Proofs.YtnkgakhnlbifdaaGreat
namespace Go.Proofs.YtnkgakhnlbifdaaGreat
open Go.RowKit
structure Au where
 try_ : Int
 ph : Int
 told : List Bool
 use : List Int
 inc : List Int
 moved : Bool
deriving DecidableEq
abbrev auV (x : Au) (tv uv iv : Value) : Value := .agg #[.int .i64 x.try_, .int .i64 x.ph, tv, uv, iv, .bool x.moved]
abbrev auCells (x : Au) (tv uv iv : Value) : Array Value := #[.int .i64 x.try_, .int .i64 x.ph, tv, uv, iv, .bool x.moved]
def Bools (w : World) (v : Value) (l : List Bool) : Prop := Elems w v 1 l.length (fun i _ => .bool (l[i]?.getD false))
theorem Bools.later {w w' : World} {v : Value} {l : List Bool} (h : Bools w v l) (hb : Below w.heap.size w w') : Bools w' v l := Elems.later h hb
theorem Bools.at {w : World} {a : Option Addr} {m c : Nat} {l : List Bool} (h : Bools w (.slice a m c) l) {i : Nat} (hi : i < l.length) :
 ∃ b off, a = some ⟨b, off, none⟩ ∧ w.cell? ⟨b, off + i, none⟩ = some (.bool (l[i]?.getD false)) := by
 obtain ⟨b, off, e, hc⟩ := Elems.at h hi
 have := hc 0 (by omega)
 rw [Nat.mul_one, Nat.add_zero] at this
 exact ⟨b, off, e, this⟩
structure Al where
 a1 : Option Addr
 m1 : Nat
 c1 : Nat
 a2 : Option Addr
 m2 : Nat
 c2 : Nat
 a3 : Option Addr
 m3 : Nat
 c3 : Nat
abbrev auAt (x : Au) (p : Al) : Value := auV x (.slice p.a1 p.m1 p.c1) (.slice p.a2 p.m2 p.c2) (.slice p.a3 p.m3 p.c3)
def AuIn (w : World) (p : Al) (x : Au) : Prop :=
 (p.m1 = x.told.length ∧ Bools w (.slice p.a1 p.m1 p.c1) x.told) ∧ (p.m2 = x.use.length ∧ Nums w (.slice p.a2 p.m2 p.c2) x.use) ∧ (p.m3 = x.inc.length ∧ Nums w (.slice p.a3 p.m3 p.c3) x.inc)
theorem AuIn.later {w w' : World} {p : Al} {x : Au} (h : AuIn w p x) (hb : Below w.heap.size w w') : AuIn w' p x := ⟨⟨h.1.1, h.1.2.later hb⟩, ⟨h.2.1.1, h.2.1.2.later hb⟩, h.2.2.1, h.2.2.2.later hb⟩
abbrev au0 : Au := ⟨0, 0, [], [], [], false⟩
def noneA (x : Au) : Bool := decide (x = au0)
def runsOk (c : Cf) (who : Int) (x : Au) : Prop :=
 (0 < x.try_ ∧ x.try_ ≤ 1125899906842624) ∧ (x.ph = 1 ∨ x.ph = 2) ∧ (x.told.length : Int) = c.n ∧ (x.use.length : Int) = c.n ∧ (x.inc.length : Int) = c.n ∧ x.told[who.toNat]?.getD false = false ∧
 ∀ i, i < x.told.length → (0 ≤ x.use[i]?.getD 0 ∧ x.use[i]?.getD 0 ≤ 1099511627776) ∧ (0 ≤ x.inc[i]?.getD 0 ∧ x.inc[i]?.getD 0 ≤ 1099511627776)
instance (c : Cf) (who : Int) (x : Au) : Decidable (runsOk c who x) := by unfold runsOk; exact inferInstance
def auOk (c : Cf) (who : Int) (x : Au) : Prop := cfOk c ∧ (0 ≤ who ∧ who < c.n) ∧ (x = au0 ∨ runsOk c who x)
instance (c : Cf) (who : Int) (x : Au) : Decidable (auOk c who x) := by unfold auOk; exact inferInstance
def auB (c : Cf) (who : Int) (x : Au) : Bool := decide (auOk c who x)
theorem auB_no {c : Cf} {who : Int} {x : Au} (h : ¬ auOk c who x) : auB c who x = false := decide_eq_false h
end Go.Proofs.YtnkgakhnlbifdaaGreat
namespace Go.Proofs.YtnkgakhnlbifdaaGreat
open Go.RowKit
structure Bk where
 clk : Int
 rows : List Rw
 line : List Rq
 outs : List Rq
 asks : Int
 notes : List Nt
 au : Au
structure Bl where
 a1 : Option Addr
 m1 : Nat
 c1 : Nat
 a2 : Option Addr
 m2 : Nat
 c2 : Nat
 a3 : Option Addr
 m3 : Nat
 c3 : Nat
 a4 : Option Addr
 m4 : Nat
 c4 : Nat
 al : Al
abbrev bkCells (x : Bk) (rv lv ov nv tv uv iv : Value) : Array Value := #[.int .i64 x.clk, rv, lv, ov, .int .i64 x.asks, nv, .int .i64 x.au.try_, .int .i64 x.au.ph, tv, uv, iv, .bool x.au.moved]
abbrev bkAtC (x : Bk) (p : Bl) : Array Value := bkCells x (.slice p.a1 p.m1 p.c1) (.slice p.a2 p.m2 p.c2) (.slice p.a3 p.m3 p.c3) (.slice p.a4 p.m4 p.c4) (.slice p.al.a1 p.al.m1 p.al.c1) (.slice p.al.a2 p.al.m2 p.al.c2) (.slice p.al.a3 p.al.m3 p.al.c3)
abbrev bkAt (x : Bk) (p : Bl) : Value := .agg (bkAtC x p)
abbrev bk0 : Bk := ⟨0, [], [], [], 0, [], au0⟩
def BkIn (w : World) (p : Bl) (x : Bk) : Prop :=
 (p.m1 = x.rows.length ∧ Books w (.slice p.a1 p.m1 p.c1) x.rows) ∧ (p.m2 = x.line.length ∧ Line w (.slice p.a2 p.m2 p.c2) x.line) ∧ (p.m3 = x.outs.length ∧ Line w (.slice p.a3 p.m3 p.c3) x.outs) ∧
 (p.m4 = x.notes.length ∧ Notes w (.slice p.a4 p.m4 p.c4) x.notes) ∧ AuIn w p.al x.au
theorem BkIn.later {w w' : World} {p : Bl} {x : Bk} (h : BkIn w p x) (hb : Below w.heap.size w w') : BkIn w' p x :=
 ⟨⟨h.1.1, h.1.2.later hb⟩, ⟨h.2.1.1, h.2.1.2.later hb⟩, ⟨h.2.2.1.1, h.2.2.1.2.later hb⟩, ⟨h.2.2.2.1.1, h.2.2.2.1.2.later hb⟩, h.2.2.2.2.later hb⟩
def outB (c : Cf) (who clk : Int) (o : Rq) : Bool := mayB o.t o.a c.n && (decide (o.a = who ∧ o.t ≤ clk) && decide (o.m = 0 ∨ o.m = 7))
def bookOk (c : Cf) (who : Int) (x : Bk) : Prop :=
 rightOk c x.rows ∧ (0 ≤ who ∧ who < c.n) ∧ (0 ≤ x.clk ∧ x.clk ≤ 1125899906842624) ∧ lineOk c who x.line ∧ ((x.outs.length : Int) ≤ c.q + 1 ∧ 0 ≤ x.asks ∧ x.asks ≤ c.r) ∧
 (∀ i, i < x.line.length → (rqAt x.line i).t ≤ x.clk) ∧ (∀ i, i < x.outs.length → outB c who x.clk (rqAt x.outs i) = true) ∧
 (x.line = [] → x.asks = 0 ∧ x.au = au0) ∧ notesOk c who x.notes ∧ auOk c who x.au
instance (c : Cf) (who : Int) (x : Bk) : Decidable (bookOk c who x) := by unfold bookOk; exact inferInstance
def bookB (c : Cf) (who : Int) (x : Bk) : Bool := decide (bookOk c who x)
def boundV (c : Cf) : Int := if cfOk c then 16 * (c.n * (c.n + 12) + 6 * c.q + 20) else 0
def newK (c : Cf) (who : Int) : Bk × Int := if cfOk c ∧ 0 ≤ who ∧ who < c.n then (⟨0, newL c, [], [], 0, List.replicate c.n.toNat nt0, au0⟩, 0) else (bk0, 1)
def GaveK (w : World) (x : Bk × Int) (e : Ending) (w' : World) : Prop := ∃ p : Bl, e = .returned (.tuple #[bkAt x.1 p, .int .i64 x.2]) ∧ BkIn w' p x.1 ∧ Below w.heap.size w w'
def TookK (w : World) (x : Option Bk) (e : Ending) (w' : World) : Prop := ∃ p : Bl, e = .returned (.tuple #[bkAt (x.getD bk0) p, .bool x.isSome]) ∧ BkIn w' p (x.getD bk0) ∧ Below w.heap.size w w'
end Go.Proofs.YtnkgakhnlbifdaaGreat
namespace PackMath
def num (v : Nat) : List Int := if v < 128 then [(v : Int)] else ((v % 128 + 128 : Nat) : Int) :: num (v / 128)
termination_by v
decreasing_by omega
theorem num_lt {v : Nat} (h : v < 128) : num v = [(v : Int)] := by rw [num, if_pos h]
theorem num_ge {v : Nat} (h : 128 ≤ v) : num v = ((v % 128 + 128 : Nat) : Int) :: num (v / 128) := by rw [num, if_neg (by omega)]
theorem num_cons {a r : Nat} (ha : a < 128) (hr : 0 < r) : num (a + 128 * r) = ((a + 128 : Nat) : Int) :: num r := by
 rw [num_ge (by omega), show (a + 128 * r) % 128 = a by omega, show (a + 128 * r) / 128 = r by omega]
theorem num_pos (v : Nat) : 0 < (num v).length := by
 rw [num]; split <;> simp
theorem num_bytes (v : Nat) : ∀ c ∈ num v, 0 ≤ c ∧ c < 256 := by
 induction v using num.induct with
 | case1 v h => rw [num_lt h]; intro c hc; simp at hc; omega
 | case2 v h ih =>
   rw [num_ge (by omega)]
   intro c hc
   rcases List.mem_cons.1 hc with rfl | hc
   · omega
   · exact ih c hc
theorem num_len_le (k : Nat) : ∀ v, v < 128 ^ (k + 1) → (num v).length ≤ k + 1 := by
 induction k with
 | zero => intro v h; rw [num_lt (by simpa using h)]; simp
 | succ k ih =>
   intro v h
   by_cases h1 : v < 128
   · rw [num_lt h1]; simp
   · rw [num_ge (by omega), List.length_cons]
     have := ih (v / 128) (by rw [Nat.div_lt_iff_lt_mul (by decide)]; rw [Nat.pow_succ] at h; exact h)
     omega
theorem num_len_64 (v : Nat) (h : v < 18446744073709551616) : (num v).length ≤ 10 := num_len_le 9 v (by
 have : (128 : Nat) ^ (9 + 1) = 1180591620717411303424 := by decide
 omega)
theorem num_prefix : ∀ (a b : Nat) (x y : List Int), num a ++ x = num b ++ y → a = b ∧ x = y := by
 intro a
 induction a using num.induct with
 | case1 a h =>
   intro b x y e
   by_cases hb : b < 128
   · rw [num_lt h, num_lt hb] at e
     simp at e
     exact ⟨by omega, e.2⟩
   · rw [num_lt h, num_ge (by omega)] at e
     simp only [List.cons_append, List.nil_append, List.cons.injEq] at e
     omega
 | case2 a h ih =>
   intro b x y e
   by_cases hb : b < 128
   · rw [num_lt hb, num_ge (by omega)] at e
     simp only [List.cons_append, List.nil_append, List.cons.injEq] at e
     omega
   · rw [num_ge (v := a) (by omega), num_ge (v := b) (by omega)] at e
     simp only [List.cons_append, List.cons.injEq] at e
     obtain ⟨h1, h2⟩ := ih (b / 128) x y e.2
     exact ⟨by omega, h2⟩
def Begins (zs : List Int) (v : Nat) (rest : List Int) : Prop := v < 18446744073709551616 ∧ zs = num v ++ rest
def Bare (zs : List Int) : Prop := ∀ v rest, v < 18446744073709551616 → zs ≠ num v ++ rest
theorem begins_or (zs : List Int) : (∃ v rest, Begins zs v rest) ∨ Bare zs := by
 by_cases h : ∃ v rest, Begins zs v rest
 · exact Or.inl h
 · exact Or.inr fun v rest hv e => h ⟨v, rest, hv, e⟩
theorem Begins.unique {zs x y : List Int} {a b : Nat} (h : Begins zs a x) (k : Begins zs b y) : a = b ∧ x = y :=
 num_prefix a b x y (h.2.symm.trans k.2)
def Read (p : List Int) (m : Nat) : Prop := m < 128 ^ p.length ∧ ∀ r, 0 < r → num (m + 128 ^ p.length * r) = p ++ num r
theorem read_nil : Read [] 0 := ⟨by decide, fun r _ => by simp⟩
theorem Read.more {p : List Int} {m d : Nat} (h : Read p m) (hd : d < 128) : Read (p ++ [((d + 128 : Nat) : Int)]) (m + 128 ^ p.length * d) := by
 have hp : 0 < 128 ^ p.length := Nat.pow_pos (by decide)
 have e1 : 128 ^ (p.length + 1) = 128 ^ p.length * 128 := Nat.pow_succ _ _
 refine ⟨?_, fun r hr => ?_⟩
 · rw [List.length_append, List.length_singleton, e1]
   have h1 := h.1
   have h2 : 128 ^ p.length * (d + 1) ≤ 128 ^ p.length * 128 := Nat.mul_le_mul_left _ (by omega)
   rw [Nat.mul_add] at h2
   omega
 · rw [List.length_append, List.length_singleton, e1, Nat.mul_assoc, Nat.add_assoc, ← Nat.mul_add, h.2 _ (by omega), num_cons hd hr]
   simp
theorem Read.last {p : List Int} {m d : Nat} (h : Read p m) (hd : d < 128) (h0 : p = [] ∨ 0 < d) : num (m + 128 ^ p.length * d) = p ++ [(d : Int)] := by
 rcases h0 with rfl | h0
 · have := h.1
   simp at this
   subst this
   simp [num_lt hd]
 · rw [h.2 d h0, num_lt hd]
theorem pow7 (k : Nat) : 128 ^ k = 2 ^ (7 * k) := by
 rw [show (128 : Nat) = 2 ^ 7 from rfl, ← Nat.pow_mul]
theorem or_add (m k d : Nat) (h : m < 128 ^ k) : m ||| (128 ^ k * d) = m + 128 ^ k * d := by
 rw [pow7] at h ⊢
 rw [Nat.or_comm, ← Nat.two_pow_add_eq_or_of_lt h d, Nat.add_comm]
theorem pow9 : (128 : Nat) ^ 9 = 9223372036854775808 := by decide
theorem pow_le9 {k : Nat} (h : k ≤ 8) : 128 ^ k * 128 ≤ 9223372036854775808 := by
 have : 128 ^ (k + 1) ≤ 128 ^ 9 := Nat.pow_le_pow_right (by decide) (by omega)
 rw [Nat.pow_succ, pow9] at this
 exact this
theorem Read.lt64 {p : List Int} {m d : Nat} (h : Read p m) (h9 : p.length ≤ 9) (hd : d < 128) (h1 : p.length = 9 → d ≤ 1) : m + 128 ^ p.length * d < 18446744073709551616 := by
 have hm := h.1
 by_cases e : p.length = 9
 · rw [e, pow9] at hm ⊢
   have := h1 e
   omega
 · have hp := pow_le9 (k := p.length) (by omega)
   have h2 : 128 ^ p.length * (d + 1) ≤ 128 ^ p.length * 128 := Nat.mul_le_mul_left _ (by omega)
   rw [Nat.mul_add] at h2
   omega
theorem num_digit : ∀ (v k : Nat), k < (num v).length → (num v).getD k 0 % 128 = (((v / 128 ^ k) % 128 : Nat) : Int) := by
 intro v
 induction v using num.induct with
 | case1 v h =>
   intro k hk
   rw [num_lt h] at hk ⊢
   simp at hk
   subst hk
   simp
 | case2 v h ih =>
   intro k hk
   rw [num_ge (by omega)] at hk ⊢
   cases k with
   | zero => simp
   | succ k =>
     rw [List.getD_cons_succ, ih k (by simpa using hk), Nat.div_div_eq_div_mul, Nat.pow_succ, Nat.mul_comm]
theorem num_high : ∀ (v k : Nat), k < (num v).length → (k + 1 < (num v).length ↔ 128 ≤ (num v).getD k 0) := by
 intro v
 induction v using num.induct with
 | case1 v h =>
   intro k hk
   rw [num_lt h] at hk ⊢
   simp at hk
   subst hk
   simp
   omega
 | case2 v h ih =>
   intro k hk
   rw [num_ge (by omega)] at hk ⊢
   cases k with
   | zero =>
     have := num_pos (v / 128)
     simp
     omega
   | succ k =>
     rw [List.getD_cons_succ, List.length_cons]
     have := ih k (by simpa using hk)
     omega
theorem num_end : ∀ (v : Nat), v / 128 ^ (num v).length = 0 := by
 intro v
 induction v using num.induct with
 | case1 v h => rw [num_lt h]; simp; omega
 | case2 v h ih => rw [num_ge (by omega), List.length_cons, Nat.pow_succ, Nat.mul_comm, ← Nat.div_div_eq_div_mul]; exact ih
theorem div_step (v k : Nat) : 128 * (v / 128 ^ (k + 1)) + (v / 128 ^ k) % 128 = v / 128 ^ k := by
 rw [Nat.pow_succ, ← Nat.div_div_eq_div_mul]; omega
end PackMath
