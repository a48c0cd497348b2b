/- Merged texts: RowMath, AppRun. No law is proved here. -/
import Derived.Test.YtgonboccklpoaaaMg3
import Derived.Test.YtgonboccklpoaaaAppend
import Derived.WalkKit
/- Rows by their numbers: what the document says of them. No program in it. No law is proved here. -/
namespace Go.Proofs.Ytgonboccklpoaaa
open Go.RowKit

theorem zip_take_snoc (la lb : List Int) (k : Nat) (ha : k < la.length) (hb : k < lb.length) : (la.zip lb).take (k + 1) = (la.zip lb).take k ++ [(la[k]?.getD 0, lb[k]?.getD 0)] := by
  rw [List.take_succ_eq_append_getElem (by rw [List.length_zip]; omega)]
  simp [List.getElem?_eq_getElem ha, List.getElem?_eq_getElem hb]
/-- the most that each number may be: nothing where the replica would move to itself -/
def mostOf (who : Int) (k : Nat) : Int := if (k : Int) = who then 0 else 1125899906842624
def mosts (who : Int) (m : Nat) : List Int := (List.range m).map (mostOf who)
theorem mosts_length (who : Int) (m : Nat) : (mosts who m).length = m := by simp [mosts]
theorem mosts_at (who : Int) (m k : Nat) (h : k < m) : (mosts who m)[k]?.getD 0 = mostOf who k := by simp [mosts, h]
/-- one list is nowhere ahead of another one of as many -/
def leAll (l : List (Int × Int)) : Bool := l.all fun x => decide (x.1 ≤ x.2)
def behindB (i u : Int) (la : List Int) (j v : Int) (lb : List Int) : Bool := decide (la.length = lb.length ∧ i ≤ j ∧ u ≤ v) && leAll (la.zip lb)
theorem leAll_no {l : List (Int × Int)} (x : Int × Int) (h : x ∈ l) (hx : x.2 < x.1) : leAll l = false := by
  unfold leAll
  rw [List.all_eq_false]
  exact ⟨x, h, by simp; omega⟩
theorem leAll_yes {l : List (Int × Int)} (h : ∀ x ∈ l, x.1 ≤ x.2) : leAll l = true := by
  unfold leAll
  rw [List.all_eq_true]
  intro x hx
  exact decide_eq_true (h x hx)
theorem behindB_no {i u j v : Int} {la lb : List Int} (h : ¬ (la.length = lb.length ∧ i ≤ j ∧ u ≤ v)) : behindB i u la j v lb = false := by
  unfold behindB; rw [decide_eq_false h]; rfl
theorem behindB_all {i u j v : Int} {la lb : List Int} (h : la.length = lb.length ∧ i ≤ j ∧ u ≤ v) : behindB i u la j v lb = leAll (la.zip lb) := by
  unfold behindB; rw [decide_eq_true h]; rfl
/-- two rows are alike -/
def sameB (i u : Int) (la : List Int) (j v : Int) (lb : List Int) : Bool := decide (i = j ∧ u = v ∧ la = lb)
theorem zip_getElem {la lb : List Int} (h : la.length = lb.length) (k : Nat) (hk : k < la.length) : (la.zip lb)[k]'(by rw [List.length_zip]; omega) = (la[k], lb[k]'(by omega)) := by simp
theorem leAll_at {la lb : List Int} (h : la.length = lb.length) (hl : leAll (la.zip lb) = true) (k : Nat) (hk : k < la.length) : la[k]?.getD 0 ≤ lb[k]?.getD 0 := by
  unfold leAll at hl
  rw [List.all_eq_true] at hl
  have := hl ((la.zip lb)[k]'(by rw [List.length_zip]; omega)) (List.getElem_mem _)
  rw [zip_getElem h k hk] at this
  rw [List.getElem?_eq_getElem hk, List.getElem?_eq_getElem (show k < lb.length by omega)]
  exact of_decide_eq_true this
theorem leAll_of {la lb : List Int} (h : la.length = lb.length) (hl : ∀ k, k < la.length → la[k]?.getD 0 ≤ lb[k]?.getD 0) : leAll (la.zip lb) = true := by
  apply leAll_yes
  intro x hx
  obtain ⟨k, hk, rfl⟩ := List.getElem_of_mem hx
  rw [List.length_zip] at hk
  rw [zip_getElem h k (by omega)]
  have := hl k (by omega)
  rw [List.getElem?_eq_getElem (show k < la.length by omega), List.getElem?_eq_getElem (show k < lb.length by omega)] at this
  exact this
theorem behindB_iff {i u j v : Int} {la lb : List Int} : behindB i u la j v lb = true ↔ la.length = lb.length ∧ i ≤ j ∧ u ≤ v ∧ ∀ k, k < la.length → la[k]?.getD 0 ≤ lb[k]?.getD 0 := by
  constructor
  · intro h
    unfold behindB at h
    rw [Bool.and_eq_true, decide_eq_true_eq] at h
    obtain ⟨⟨h1, h2, h3⟩, h4⟩ := h
    exact ⟨h1, h2, h3, leAll_at h1 h4⟩
  · rintro ⟨h1, h2, h3, h4⟩
    rw [behindB_all ⟨h1, h2, h3⟩]
    exact leAll_of h1 h4
theorem list_same {la lb : List Int} (h : la.length = lb.length) (hk : ∀ k, k < la.length → la[k]?.getD 0 = lb[k]?.getD 0) : la = lb := by
  apply List.ext_getElem h
  intro k h1 h2
  have := hk k h1
  rwa [List.getElem?_eq_getElem h1, List.getElem?_eq_getElem h2] at this
theorem same_both (i u : Int) (la : List Int) (j v : Int) (lb : List Int) : (behindB i u la j v lb && behindB j v lb i u la) = sameB i u la j v lb := by
  rw [Bool.eq_iff_iff, Bool.and_eq_true, behindB_iff, behindB_iff]
  unfold sameB
  rw [decide_eq_true_eq]
  constructor
  · rintro ⟨⟨h1, h2, h3, h4⟩, h5, h6, h7, h8⟩
    exact ⟨by omega, by omega, list_same h1 fun k hk => by have := h4 k hk; have := h8 k (by omega); omega⟩
  · rintro ⟨rfl, rfl, rfl⟩
    exact ⟨⟨rfl, Int.le_refl _, Int.le_refl _, fun k _ => Int.le_refl _⟩, rfl, Int.le_refl _, Int.le_refl _, fun k _ => Int.le_refl _⟩
/-- in each place the greater number -/
def tops (l : List (Int × Int)) : List Int := l.map fun x => max x.1 x.2
def joinL (la lb : List Int) : List Int := tops (la.zip lb)
theorem tops_snoc (l : List (Int × Int)) (x : Int × Int) : tops (l ++ [x]) = tops l ++ [max x.1 x.2] := by simp [tops]
theorem tops_length (l : List (Int × Int)) : (tops l).length = l.length := by simp [tops]
theorem joinL_length {la lb : List Int} (h : la.length = lb.length) : (joinL la lb).length = la.length := by simp [joinL, tops, h]
theorem joinL_at {la lb : List Int} (h : la.length = lb.length) {k : Nat} (hk : k < la.length) : (joinL la lb)[k]?.getD 0 = max (la[k]?.getD 0) (lb[k]?.getD 0) := by
  have h2 : k < lb.length := by omega
  have h3 : k < (la.zip lb).length := by rw [List.length_zip]; omega
  simp [joinL, tops, List.getElem?_eq_getElem hk, List.getElem?_eq_getElem h2, List.getElem?_eq_getElem h3]
/-- may it be what a replica put in, or took out? -/
def countB (v : Int) : Bool := decide (0 ≤ v ∧ v ≤ 1099511627776)
theorem countB_yes {v : Int} (h : 0 ≤ v ∧ v ≤ 1099511627776) : countB v = true := decide_eq_true h
theorem countB_no {v : Int} (h : ¬ (0 ≤ v ∧ v ≤ 1099511627776)) : countB v = false := decide_eq_false h
/-- each number from 0 to the most that it may be -/
def fits (l : List (Int × Int)) : Bool := l.all fun x => decide (0 ≤ x.1 ∧ x.1 ≤ x.2)
theorem fits_no {l : List (Int × Int)} (x : Int × Int) (h : x ∈ l) (hx : ¬ (0 ≤ x.1 ∧ x.1 ≤ x.2)) : fits l = false := by
  unfold fits
  rw [List.all_eq_false]
  exact ⟨x, h, by simpa using hx⟩
theorem fits_yes {l : List (Int × Int)} (h : ∀ x ∈ l, 0 ≤ x.1 ∧ x.1 ≤ x.2) : fits l = true := by
  unfold fits
  rw [List.all_eq_true]
  intro x hx
  exact decide_eq_true (h x hx)
/-- one of them is none that may be -/
def Bad (l : List (Int × Int)) : Prop := ∃ x ∈ l, ¬ (0 ≤ x.1 ∧ x.1 ≤ x.2)
theorem bad_of {l : List (Int × Int)} {x : Int × Int} (h : x.1 < 0 ∨ x.2 < x.1) : Bad (l ++ [x]) := ⟨x, by simp, by omega⟩
theorem Bad.fits {l : List (Int × Int)} {k : Nat} (h : Bad (l.take k)) : fits l = false := by
  obtain ⟨x, hx, hn⟩ := h
  exact fits_no x (List.mem_of_mem_take hx) hn
/-- may it be a replica's row, among n? -/
def mayR (i u : Int) (l : List Int) (n who : Int) : Bool := decide ((l.length : Int) = n ∧ 0 ≤ who ∧ who < n) && (countB i && countB u) && fits (l.zip (mosts who l.length))
/-- all together, as 64 bits reckon it -/
def sumW (l : List Int) : Int := l.foldl (fun s v => wrap64 (s + v)) 0
theorem sumW_snoc (l : List Int) (x : Int) : sumW (l ++ [x]) = wrap64 (sumW l + x) := by simp [sumW]
/-- what a row moved: where each is from 0 to 2^50, and there are 16 of them at most -/
def sentV (l : List Int) : Int := if l.length ≤ 16 ∧ fits (l.zip (mosts (-1) l.length)) = true then sumW l else 0
end Go.Proofs.Ytgonboccklpoaaa

/- An append that is known to run, under one name. No function of the program in it. No law is proved here. -/
namespace Go.Proofs.Ytgonboccklpoaaa
open Go.RowKit

/-- an append that is known to run: what it answers, and the world behind it, under two names -/
def Fine (P : Program) (w : World) (ts : Array TypeId) (ty : TypeId) (args : Array Value) : Prop := ∃ v w', (Builtin.append_ ts ty args).run P w = .ok v w'
def okV : Result Value → Value
  | .ok v _ => v
  | _ => undef
def okW (w : World) : Result Value → World
  | .ok _ w' => w'
  | _ => w
noncomputable def appV (P : Program) (w : World) (ts : Array TypeId) (ty : TypeId) (args : Array Value) : Value := okV ((Builtin.append_ ts ty args).run P w)
noncomputable def appW (P : Program) (w : World) (ts : Array TypeId) (ty : TypeId) (args : Array Value) : World := okW w ((Builtin.append_ ts ty args).run P w)
theorem run_fine {P : Program} {w : World} {ρ : Operand → Value} {dst : Option Tmp} {ty t t2 : TypeId} {pos : String} {after : Array Edge} {guard : Option (Nat × Bool)} {s x : Operand}
    (h : Fine P w #[t, t2] ty #[ρ s, ρ x]) : (execOp ρ { dst, op := .call { callee := .builtin .append, args := #[s, x], argTypes := #[t, t2] }, type := ty, pos, after, guard }).run P w = .ok (.value (appV P w #[t, t2] ty #[ρ s, ρ x])) (appW P w #[t, t2] ty #[ρ s, ρ x]) := by
  obtain ⟨v, w', hr⟩ := h
  unfold execOp appV appW
  simp only [resolve, invoke, builtin, Sem.run_bind, Sem.run_pure, Result.andThen_ok, List.map_toArray, List.map_cons, List.map_nil, hr]
  rfl
theorem fine_of {P : Program} {w w' : World} {ts : Array TypeId} {ty : TypeId} {args : Array Value} {v : Value} (h : (Builtin.append_ ts ty args).run P w = .ok v w') : Fine P w ts ty args ∧ appV P w ts ty args = v ∧ appW P w ts ty args = w' :=
  ⟨⟨_, _, h⟩, by unfold appV; rw [h]; rfl, by unfold appW; rw [h]; rfl⟩
end Go.Proofs.Ytgonboccklpoaaa
