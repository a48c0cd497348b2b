/- Merged texts: Nums, NumsOpen, CfOpen, Books, RowMath, AppRun. No law is proved here. -/
import Derived.Test.YtfpadcfahfanoaaAppend
import Derived.Lib.SmallJoins
import Derived.Test.YtfpadcfahfanoaaMg0
import Derived.WalkKit
/- A slice of numbers, nil and empty in one. No law is proved here. -/
namespace Go.Proofs.Ytfpadcfahfanoaa
open Go.RowKit

/-- A slice of numbers. -/
def Nums (w : World) (v : Value) (l : List Int) : Prop := Elems w v 1 l.length (fun i _ => .int .i64 (l[i]?.getD 0))
theorem Nums.later {w w' : World} {v : Value} {l : List Int} (h : Nums w v l) (hb : Below w.heap.size w w') : Nums w' v l := Elems.later h hb
/-- a number, where there is one -/
theorem Nums.at {w : World} {a : Option Addr} {m c : Nat} {l : List Int} (h : Nums w (.slice a m c) l) {i : Nat} (hi : i < l.length) :
    ∃ b off, a = some ⟨b, off, none⟩ ∧ b < w.heap.size ∧ w.cell? ⟨b, off + i, none⟩ = some (.int .i64 (l[i]?.getD 0)) := by
  obtain ⟨b, off, e, hc⟩ := Elems.at h hi
  have := hc 0 (by omega)
  rw [Nat.mul_one, Nat.add_zero] at this
  exact ⟨b, off, e, World.block_lt_of_cell? w _ this, this⟩

end Go.Proofs.Ytfpadcfahfanoaa

/- A slice of numbers that came in. No law is proved here. -/
namespace Go.Proofs.Ytfpadcfahfanoaa
open Go.ChangeShapes Go.WideShapes Go.ChangeAt Go.RowKit Go.Joins Go.Deep

theorem cells_row : Try.prog.cellsOf 59 = 3 := by kernel_rfl
theorem cells_int64 : Try.prog.cellsOf 2 = 1 := by kernel_rfl

theorem open_nums {H : Type} {enc : TypeId × Value → H} {W : World} {v : Value} {n : Nat} {y : DataW H × List MemPlace} (hf : DataW.trod enc Try.prog W 0 (fun _ => true) true n 52 [v] = some y) :
    ∃ a m c l, v = .slice a m c ∧ m = l.length ∧ Nums W (.slice a m c) l := by
  rcases open_ints Try.underlying52 Try.underlying2 cells_int64 hf with ⟨hcs, hx⟩ | ⟨a, len, cap, zs, hcs, _, hl, hm, hz, hx, hcell, hwz⟩
  · simp only [List.cons.injEq, and_true] at hcs
    exact ⟨none, 0, 0, [], hcs, rfl, elems_nil W _ _ _ _ (fun _ => rfl)⟩
  · simp only [List.cons.injEq, and_true] at hcs
    subst hcs
    simp only [if_true] at hz
    have hlen : (zs.take len).length = len := by simp; omega
    refine ⟨some a, len, cap, zs.take len, rfl, hlen.symm, ?_⟩
    unfold Nums
    rw [hlen]
    refine ⟨by unfold maxLen at hm; omega, ?_⟩
    obtain ⟨b, off, spot⟩ := a
    by_cases h0 : len = 0
    · subst h0
      exact Or.inl ⟨_, cap, rfl, (fun h => by cases h), rfl⟩
    · have hspot : spot = none := by simpa [Addr.add] using World.cell?_spot (hcell 0 (by omega))
      subst hspot
      refine Or.inr ⟨b, off, cap, rfl, hl, fun i j hi hj => ?_⟩
      obtain rfl : j = 0 := by omega
      have := hcell i (by omega)
      rw [Nat.mul_one, Nat.add_zero, ← add_plain, this]
      simp [List.getD_eq_getElem?_getD, hi]

end Go.Proofs.Ytfpadcfahfanoaa

/- A config that came in. No law is proved here. -/
namespace Go.Proofs.Ytfpadcfahfanoaa
open Go.ChangeShapes Go.WideShapes Go.ChangeAt Go.RowKit Go.Deep

theorem cells_config : Try.prog.cellsOf 23 = 6 := by kernel_rfl
set_option maxRecDepth 100000 in
theorem open_config {H : Type} {enc : TypeId × Value → H} {W : World} {base : Nat} {v : Value} {d : DataW H} {p : List MemPlace} (hv : Value.okWide Try.prog W .any base 23 v)
    (h : DataW.Trod enc Try.prog W 0 (fun _ => true) true 23 v d p) : ∃ c : Cf, v = cfV c := by
  obtain ⟨cs, rfl, hsz⟩ := okWide_struct Try.underlying23 hv
  obtain ⟨fuel, hf⟩ := h
  obtain ⟨xs, m, _, _, _, hlen, hat⟩ := DataW.trod_struct Try.underlying23 hf
  rw [cells_config] at hsz
  have key : ∀ j (hj : j < cs.size), ∃ x, cs[j] = .int .i64 x := by
    intro j hj
    have hjx : j < xs.length := by rw [hlen]; show j < 6; omega
    have hd : ∀ (a : List Value), a = (Value.agg cs).cells.toList → a.length = 6 → ∀ i, i < 6 → (a.drop i).take 1 = [a[i]?.getD (.bool false)] := by
      intro a _ ha i hi
      rw [List.drop_eq_getElem_cons (by omega), List.take_succ_cons, List.take_zero, List.getElem?_eq_getElem (by omega)]; rfl
    have hcl : ((Value.agg cs).cells.toList).length = 6 := by
      show cs.toList.length = 6
      rw [Array.length_toList]; exact hsz
    have hj6 : j < 6 := by omega
    have fin : ∀ i t, i < 6 → DataW.trod enc Try.prog W 0 (fun _ => true) true m t (((Value.agg cs).cells.toList.drop i).take 1) = xs[i]? → (t = 3 ∨ t = 2) → ∃ x, cs[i]?.getD (.bool false) = .int .i64 x := by
      intro i t hi ht hk
      rw [hd _ rfl hcl i hi, List.getElem?_eq_getElem (l := xs) (by rw [hlen]; exact hi)] at ht
      rcases hk with rfl | rfl
      · obtain ⟨x, e, _⟩ := DataW.trod_int Try.underlying3 ht
        simp only [List.cons.injEq, and_true] at e
        exact ⟨x, by rw [← e]; show _ = (cs.toList[i]?).getD _; rw [Array.getElem?_toList]⟩
      · obtain ⟨x, e, _⟩ := DataW.trod_int Try.underlying2 ht
        simp only [List.cons.injEq, and_true] at e
        exact ⟨x, by rw [← e]; show _ = (cs.toList[i]?).getD _; rw [Array.getElem?_toList]⟩
    have : ∃ x, cs[j]?.getD (.bool false) = .int .i64 x := by
      match j, hj6 with
      | 0, h => exact fin 0 _ h (hat 0 _ rfl) (Or.inl rfl)
      | 1, h => exact fin 1 _ h (hat 1 _ rfl) (Or.inl rfl)
      | 2, h => exact fin 2 _ h (hat 2 _ rfl) (Or.inl rfl)
      | 3, h => exact fin 3 _ h (hat 3 _ rfl) (Or.inl rfl)
      | 4, h => exact fin 4 _ h (hat 4 _ rfl) (Or.inr rfl)
      | 5, h => exact fin 5 _ h (hat 5 _ rfl) (Or.inr rfl)
    obtain ⟨x, e⟩ := this
    rw [Array.getElem?_eq_getElem hj] at e
    exact ⟨x, e⟩
  obtain ⟨l⟩ := cs
  match l, hsz with
  | [v0, v1, v2, v3, v4, v5], _ =>
    obtain ⟨x0, e0⟩ := key 0 (by simp)
    obtain ⟨x1, e1⟩ := key 1 (by simp)
    obtain ⟨x2, e2⟩ := key 2 (by simp)
    obtain ⟨x3, e3⟩ := key 3 (by simp)
    obtain ⟨x4, e4⟩ := key 4 (by simp)
    obtain ⟨x5, e5⟩ := key 5 (by simp)
    refine ⟨⟨x0, x1, x2, x3, x4, x5⟩, ?_⟩
    simp at e0 e1 e2 e3 e4 e5
    rw [e0, e1, e2, e3, e4, e5]
end Go.Proofs.Ytfpadcfahfanoaa

/- Books: a slice of rows, each with a slice of numbers of its own; a config by value. No law is proved here. -/
namespace Go.Proofs.Ytfpadcfahfanoaa
open Go.ChangeShapes Go.WideShapes Go.ChangeAt Go.RowKit Go.Joins Go.Deep

/-- a row: what was put in, what was taken out, what was moved -/
structure Rw where
  inc : Int
  use : Int
  out : List Int
instance : Inhabited Rw := ⟨⟨0, 0, []⟩⟩
/-- the row of one, nothing where there is none -/
def at_ (l : List Rw) (k : Nat) : Rw := l[k]?.getD ⟨0, 0, []⟩
theorem at_lt {l : List Rw} {k : Nat} (h : k < l.length) : at_ l k = l[k] := by simp [at_, h]
/-- cell j of the row i -/
def rowCell (l : List Rw) (g : Nat → Value) (i j : Nat) : Value := if j = 0 then .int .i64 (at_ l i).inc else if j = 1 then .int .i64 (at_ l i).use else g i
/-- A slice of rows, each list Out read -/
def Books (w : World) (v : Value) (l : List Rw) : Prop :=
  ∃ g : Nat → Value, Elems w v 3 l.length (rowCell l g) ∧ ∀ k, k < l.length → ∃ a c, g k = .slice a (at_ l k).out.length c ∧ Nums w (g k) (at_ l k).out

theorem Books.later {w w' : World} {v : Value} {l : List Rw} (h : Books w v l) (hb : Below w.heap.size w w') : Books w' v l := by
  obtain ⟨g, hE, hg⟩ := h
  refine ⟨g, hE.later hb, fun k hk => ?_⟩
  obtain ⟨a, c, e, hN⟩ := hg k hk
  exact ⟨a, c, e, hN.later hb⟩
theorem Books.big {w : World} {v : Value} {l : List Rw} (h : Books w v l) : l.length ≤ 9223372036854775807 := h.choose_spec.1.1
/-- a row, where there is one -/
theorem Books.at {w : World} {a : Option Addr} {m c : Nat} {l : List Rw} (h : Books w (.slice a m c) l) {k : Nat} (hk : k < l.length) :
    ∃ b off A C, a = some ⟨b, off, none⟩ ∧ b < w.heap.size ∧ w.cell? ⟨b, off + k * 3, none⟩ = some (.int .i64 (at_ l k).inc) ∧ w.cell? ⟨b, off + k * 3 + 1, none⟩ = some (.int .i64 (at_ l k).use) ∧
      w.cell? ⟨b, off + k * 3 + 2, none⟩ = some (.slice A (at_ l k).out.length C) ∧ Nums w (.slice A (at_ l k).out.length C) (at_ l k).out := by
  obtain ⟨g, hE, hg⟩ := h
  obtain ⟨b, off, e, hc⟩ := hE.at hk
  obtain ⟨A, C, eg, hN⟩ := hg k hk
  have c0 := hc 0 (by omega)
  have c1 := hc 1 (by omega)
  have c2 := hc 2 (by omega)
  rw [show rowCell l g k 2 = g k from rfl, eg] at c2
  rw [eg] at hN
  exact ⟨b, off, A, C, e, World.block_lt_of_cell? w _ c0, c0, c1, c2, hN⟩
theorem books_nil (w : World) (a : Option Addr) (c : Nat) (h : a = none → c = 0) : Books w (.slice a 0 c) [] := ⟨fun _ => .bool false, elems_nil w a c 3 _ h, fun k hk => absurd hk (by simp)⟩

/-! ### what comes in -/

/-- the number of a cell -/
def cellInt : Value → Int
  | .int _ x => x
  | _ => 0

set_option maxRecDepth 100000 in
theorem open_books {H : Type} {enc : TypeId × Value → H} {W : World} {base : Nat} {v : Value} {d : DataW H} {p : List MemPlace} (hv : Value.okWide Try.prog W .any base 26 v)
    (h : DataW.Trod enc Try.prog W 0 (fun _ => true) true 26 v d p) : ∃ a m c l, v = .slice a m c ∧ m = l.length ∧ Books W (.slice a m c) l := by
  obtain ⟨a, n, c, f, rfl, _, _, hE, hf⟩ := open_elems Try.underlying26 cells_row (by decide) hv h
  have hex : ∀ i, ∃ out : List Int, i < n → ((∃ x, f i 0 = .int .i64 x) ∧ (∃ x, f i 1 = .int .i64 x) ∧ ∃ A C, f i 2 = .slice A out.length C ∧ Nums W (f i 2) out) := by
    intro i
    by_cases hi : i < n
    · obtain ⟨fu, x, hx⟩ := hf i hi
      obtain ⟨xs, m, _, _, _, hlen, hat⟩ := DataW.trod_struct Try.underlying59 hx
      have hr : (List.range 3).map (f i) = [f i 0, f i 1, f i 2] := rfl
      have h0 := hat 0 _ rfl
      have h1 := hat 1 _ rfl
      have h2 := hat 2 _ rfl
      rw [hr] at h0 h1 h2
      rw [List.getElem?_eq_getElem (show 0 < xs.length by rw [hlen]; decide)] at h0
      rw [List.getElem?_eq_getElem (show 1 < xs.length by rw [hlen]; decide)] at h1
      rw [List.getElem?_eq_getElem (show 2 < xs.length by rw [hlen]; decide)] at h2
      obtain ⟨t0, e0, _⟩ := DataW.trod_int Try.underlying2 h0
      obtain ⟨t1, e1, _⟩ := DataW.trod_int Try.underlying2 h1
      have e0' : [f i 0] = [Value.int .i64 t0] := e0
      have e1' : [f i 1] = [Value.int .i64 t1] := e1
      simp only [List.cons.injEq, and_true] at e0' e1'
      obtain ⟨A, m', C, l, e2, hm, hN⟩ := open_nums (v := f i 2) h2
      refine ⟨l, fun _ => ⟨⟨t0, e0'⟩, ⟨t1, e1'⟩, A, C, by rw [e2, hm], by rw [e2]; exact hN⟩⟩
    · exact ⟨[], fun h => absurd h hi⟩
  obtain ⟨G, hG⟩ := Classical.axiomOfChoice hex
  refine ⟨a, n, c, (List.range n).map (fun i => ⟨cellInt (f i 0), cellInt (f i 1), G i⟩), rfl, by simp, fun i => f i 2, ?_, fun k hk => ?_⟩
  · rw [List.length_map, List.length_range]
    refine hE.congr fun i j hi hj => ?_
    have e : at_ ((List.range n).map (fun i => (⟨cellInt (f i 0), cellInt (f i 1), G i⟩ : Rw))) i = ⟨cellInt (f i 0), cellInt (f i 1), G i⟩ := by simp [at_, hi]
    obtain ⟨⟨x0, h0⟩, ⟨x1, h1⟩, _⟩ := hG i hi
    unfold rowCell
    rw [e]
    match j, hj with
    | 0, _ => rw [if_pos rfl, h0]; rfl
    | 1, _ => rw [if_neg (by decide), if_pos rfl, h1]; rfl
    | 2, _ => rw [if_neg (by decide), if_neg (by decide)]
  · rw [List.length_map, List.length_range] at hk
    have e : at_ ((List.range n).map (fun i => (⟨cellInt (f i 0), cellInt (f i 1), G i⟩ : Rw))) k = ⟨cellInt (f k 0), cellInt (f k 1), G k⟩ := by simp [at_, hk]
    rw [e]
    obtain ⟨_, _, A, C, h2, hN⟩ := hG k hk
    exact ⟨A, C, h2, hN⟩

end Go.Proofs.Ytfpadcfahfanoaa

/- Rows by their numbers: what the document says of them. No program in it. No law is proved here. -/
namespace Go.Proofs.Ytfpadcfahfanoaa
open Go.RowKit

theorem zip_take_snoc (la lb : List Int) (k : Nat) (ha : k < la.length) (hb : k < lb.length) : (la.zip lb).take (k + 1) = (la.zip lb).take k ++ [(la[k]?.getD 0, lb[k]?.getD 0)] := by
  rw [List.take_succ_eq_append_getElem (by rw [List.length_zip]; omega)]
  simp [List.getElem?_eq_getElem ha, List.getElem?_eq_getElem hb]
/-- the most that each number may be: nothing where the replica would move to itself -/
def mostOf (who : Int) (k : Nat) : Int := if (k : Int) = who then 0 else 1125899906842624
def mosts (who : Int) (m : Nat) : List Int := (List.range m).map (mostOf who)
theorem mosts_length (who : Int) (m : Nat) : (mosts who m).length = m := by simp [mosts]
theorem mosts_at (who : Int) (m k : Nat) (h : k < m) : (mosts who m)[k]?.getD 0 = mostOf who k := by simp [mosts, h]
/-- one list is nowhere ahead of another one of as many -/
def leAll (l : List (Int × Int)) : Bool := l.all fun x => decide (x.1 ≤ x.2)
def behindB (i u : Int) (la : List Int) (j v : Int) (lb : List Int) : Bool := decide (la.length = lb.length ∧ i ≤ j ∧ u ≤ v) && leAll (la.zip lb)
theorem leAll_no {l : List (Int × Int)} (x : Int × Int) (h : x ∈ l) (hx : x.2 < x.1) : leAll l = false := by
  unfold leAll
  rw [List.all_eq_false]
  exact ⟨x, h, by simp; omega⟩
theorem leAll_yes {l : List (Int × Int)} (h : ∀ x ∈ l, x.1 ≤ x.2) : leAll l = true := by
  unfold leAll
  rw [List.all_eq_true]
  intro x hx
  exact decide_eq_true (h x hx)
theorem behindB_no {i u j v : Int} {la lb : List Int} (h : ¬ (la.length = lb.length ∧ i ≤ j ∧ u ≤ v)) : behindB i u la j v lb = false := by
  unfold behindB; rw [decide_eq_false h]; rfl
theorem behindB_all {i u j v : Int} {la lb : List Int} (h : la.length = lb.length ∧ i ≤ j ∧ u ≤ v) : behindB i u la j v lb = leAll (la.zip lb) := by
  unfold behindB; rw [decide_eq_true h]; rfl
/-- two rows are alike -/
def sameB (i u : Int) (la : List Int) (j v : Int) (lb : List Int) : Bool := decide (i = j ∧ u = v ∧ la = lb)
theorem zip_getElem {la lb : List Int} (h : la.length = lb.length) (k : Nat) (hk : k < la.length) : (la.zip lb)[k]'(by rw [List.length_zip]; omega) = (la[k], lb[k]'(by omega)) := by simp
theorem leAll_at {la lb : List Int} (h : la.length = lb.length) (hl : leAll (la.zip lb) = true) (k : Nat) (hk : k < la.length) : la[k]?.getD 0 ≤ lb[k]?.getD 0 := by
  unfold leAll at hl
  rw [List.all_eq_true] at hl
  have := hl ((la.zip lb)[k]'(by rw [List.length_zip]; omega)) (List.getElem_mem _)
  rw [zip_getElem h k hk] at this
  rw [List.getElem?_eq_getElem hk, List.getElem?_eq_getElem (show k < lb.length by omega)]
  exact of_decide_eq_true this
theorem leAll_of {la lb : List Int} (h : la.length = lb.length) (hl : ∀ k, k < la.length → la[k]?.getD 0 ≤ lb[k]?.getD 0) : leAll (la.zip lb) = true := by
  apply leAll_yes
  intro x hx
  obtain ⟨k, hk, rfl⟩ := List.getElem_of_mem hx
  rw [List.length_zip] at hk
  rw [zip_getElem h k (by omega)]
  have := hl k (by omega)
  rw [List.getElem?_eq_getElem (show k < la.length by omega), List.getElem?_eq_getElem (show k < lb.length by omega)] at this
  exact this
theorem behindB_iff {i u j v : Int} {la lb : List Int} : behindB i u la j v lb = true ↔ la.length = lb.length ∧ i ≤ j ∧ u ≤ v ∧ ∀ k, k < la.length → la[k]?.getD 0 ≤ lb[k]?.getD 0 := by
  constructor
  · intro h
    unfold behindB at h
    rw [Bool.and_eq_true, decide_eq_true_eq] at h
    obtain ⟨⟨h1, h2, h3⟩, h4⟩ := h
    exact ⟨h1, h2, h3, leAll_at h1 h4⟩
  · rintro ⟨h1, h2, h3, h4⟩
    rw [behindB_all ⟨h1, h2, h3⟩]
    exact leAll_of h1 h4
theorem list_same {la lb : List Int} (h : la.length = lb.length) (hk : ∀ k, k < la.length → la[k]?.getD 0 = lb[k]?.getD 0) : la = lb := by
  apply List.ext_getElem h
  intro k h1 h2
  have := hk k h1
  rwa [List.getElem?_eq_getElem h1, List.getElem?_eq_getElem h2] at this
theorem same_both (i u : Int) (la : List Int) (j v : Int) (lb : List Int) : (behindB i u la j v lb && behindB j v lb i u la) = sameB i u la j v lb := by
  rw [Bool.eq_iff_iff, Bool.and_eq_true, behindB_iff, behindB_iff]
  unfold sameB
  rw [decide_eq_true_eq]
  constructor
  · rintro ⟨⟨h1, h2, h3, h4⟩, h5, h6, h7, h8⟩
    exact ⟨by omega, by omega, list_same h1 fun k hk => by have := h4 k hk; have := h8 k (by omega); omega⟩
  · rintro ⟨rfl, rfl, rfl⟩
    exact ⟨⟨rfl, Int.le_refl _, Int.le_refl _, fun k _ => Int.le_refl _⟩, rfl, Int.le_refl _, Int.le_refl _, fun k _ => Int.le_refl _⟩
/-- in each place the greater number -/
def tops (l : List (Int × Int)) : List Int := l.map fun x => max x.1 x.2
def joinL (la lb : List Int) : List Int := tops (la.zip lb)
theorem tops_snoc (l : List (Int × Int)) (x : Int × Int) : tops (l ++ [x]) = tops l ++ [max x.1 x.2] := by simp [tops]
theorem tops_length (l : List (Int × Int)) : (tops l).length = l.length := by simp [tops]
theorem joinL_length {la lb : List Int} (h : la.length = lb.length) : (joinL la lb).length = la.length := by simp [joinL, tops, h]
theorem joinL_at {la lb : List Int} (h : la.length = lb.length) {k : Nat} (hk : k < la.length) : (joinL la lb)[k]?.getD 0 = max (la[k]?.getD 0) (lb[k]?.getD 0) := by
  have h2 : k < lb.length := by omega
  have h3 : k < (la.zip lb).length := by rw [List.length_zip]; omega
  simp [joinL, tops, List.getElem?_eq_getElem hk, List.getElem?_eq_getElem h2, List.getElem?_eq_getElem h3]
/-- may it be what a replica put in, or took out? -/
def countB (v : Int) : Bool := decide (0 ≤ v ∧ v ≤ 1099511627776)
theorem countB_yes {v : Int} (h : 0 ≤ v ∧ v ≤ 1099511627776) : countB v = true := decide_eq_true h
theorem countB_no {v : Int} (h : ¬ (0 ≤ v ∧ v ≤ 1099511627776)) : countB v = false := decide_eq_false h
/-- each number from 0 to the most that it may be -/
def fits (l : List (Int × Int)) : Bool := l.all fun x => decide (0 ≤ x.1 ∧ x.1 ≤ x.2)
theorem fits_no {l : List (Int × Int)} (x : Int × Int) (h : x ∈ l) (hx : ¬ (0 ≤ x.1 ∧ x.1 ≤ x.2)) : fits l = false := by
  unfold fits
  rw [List.all_eq_false]
  exact ⟨x, h, by simpa using hx⟩
theorem fits_yes {l : List (Int × Int)} (h : ∀ x ∈ l, 0 ≤ x.1 ∧ x.1 ≤ x.2) : fits l = true := by
  unfold fits
  rw [List.all_eq_true]
  intro x hx
  exact decide_eq_true (h x hx)
/-- one of them is none that may be -/
def Bad (l : List (Int × Int)) : Prop := ∃ x ∈ l, ¬ (0 ≤ x.1 ∧ x.1 ≤ x.2)
theorem bad_of {l : List (Int × Int)} {x : Int × Int} (h : x.1 < 0 ∨ x.2 < x.1) : Bad (l ++ [x]) := ⟨x, by simp, by omega⟩
theorem Bad.fits {l : List (Int × Int)} {k : Nat} (h : Bad (l.take k)) : fits l = false := by
  obtain ⟨x, hx, hn⟩ := h
  exact fits_no x (List.mem_of_mem_take hx) hn
/-- may it be a replica's row, among n? -/
def mayR (i u : Int) (l : List Int) (n who : Int) : Bool := decide ((l.length : Int) = n ∧ 0 ≤ who ∧ who < n) && (countB i && countB u) && fits (l.zip (mosts who l.length))
/-- all together, as 64 bits reckon it -/
def sumW (l : List Int) : Int := l.foldl (fun s v => wrap64 (s + v)) 0
theorem sumW_snoc (l : List Int) (x : Int) : sumW (l ++ [x]) = wrap64 (sumW l + x) := by simp [sumW]
/-- what a row moved: where each is from 0 to 2^50, and there are 16 of them at most -/
def sentV (l : List Int) : Int := if l.length ≤ 16 ∧ fits (l.zip (mosts (-1) l.length)) = true then sumW l else 0
end Go.Proofs.Ytfpadcfahfanoaa

/- An append that is known to run, under one name. No function of the program in it. No law is proved here. -/
namespace Go.Proofs.Ytfpadcfahfanoaa
open Go.RowKit

/-- an append that is known to run: what it answers, and the world behind it, under two names -/
def Fine (P : Program) (w : World) (ts : Array TypeId) (ty : TypeId) (args : Array Value) : Prop := ∃ v w', (Builtin.append_ ts ty args).run P w = .ok v w'
def okV : Result Value → Value
  | .ok v _ => v
  | _ => undef
def okW (w : World) : Result Value → World
  | .ok _ w' => w'
  | _ => w
noncomputable def appV (P : Program) (w : World) (ts : Array TypeId) (ty : TypeId) (args : Array Value) : Value := okV ((Builtin.append_ ts ty args).run P w)
noncomputable def appW (P : Program) (w : World) (ts : Array TypeId) (ty : TypeId) (args : Array Value) : World := okW w ((Builtin.append_ ts ty args).run P w)
theorem run_fine {P : Program} {w : World} {ρ : Operand → Value} {dst : Option Tmp} {ty t t2 : TypeId} {pos : String} {after : Array Edge} {guard : Option (Nat × Bool)} {s x : Operand}
    (h : Fine P w #[t, t2] ty #[ρ s, ρ x]) : (execOp ρ { dst, op := .call { callee := .builtin .append, args := #[s, x], argTypes := #[t, t2] }, type := ty, pos, after, guard }).run P w = .ok (.value (appV P w #[t, t2] ty #[ρ s, ρ x])) (appW P w #[t, t2] ty #[ρ s, ρ x]) := by
  obtain ⟨v, w', hr⟩ := h
  unfold execOp appV appW
  simp only [resolve, invoke, builtin, Sem.run_bind, Sem.run_pure, Result.andThen_ok, List.map_toArray, List.map_cons, List.map_nil, hr]
  rfl
theorem fine_of {P : Program} {w w' : World} {ts : Array TypeId} {ty : TypeId} {args : Array Value} {v : Value} (h : (Builtin.append_ ts ty args).run P w = .ok v w') : Fine P w ts ty args ∧ appV P w ts ty args = v ∧ appW P w ts ty args = w' :=
  ⟨⟨_, _, h⟩, by unfold appV; rw [h]; rfl, by unfold appW; rw [h]; rfl⟩
end Go.Proofs.Ytfpadcfahfanoaa
