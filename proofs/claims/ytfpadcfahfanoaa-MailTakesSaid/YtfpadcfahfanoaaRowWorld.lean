/- Rows in memory: boxes, rows of the call's own, what a round keeps, an append that is known to run. No function of the program in it. No law is proved here. -/
import Derived.RangeFuncNested
import Derived.RangeFuncBound
import Derived.RangeFuncLeaves
import Derived.RangeFuncBox
import Derived.WalkKit
import Derived.Laws.MakeOwn
import Derived.Maps.AppendAt
import Derived.Test.YtfpadcfahfanoaaMg2
namespace Go.Proofs.Ytfpadcfahfanoaa
open Go.RowKit

/-- what a round of these loops keeps: what was there ahead of the call, and one box -/
def KeptAt (n₀ B : Nat) (W W' : World) : Prop := Below n₀ W W' ∧ W'.heap[B]? = W.heap[B]?
theorem kept_trans {n₀ B : Nat} {X Y Z : World} (h : KeptAt n₀ B X Y) (k : KeptAt n₀ B Y Z) : KeptAt n₀ B X Z := ⟨h.1.trans k.1, k.2.trans h.2⟩
theorem kept_put {n₀ B : Nat} {w : World} (hn : n₀ ≤ w.heap.size) (hB : B < w.heap.size) : ∀ (W : World) (l : Nat) (o o' : Obj), w.heap.size ≤ l → W.heap[l]? = some o → o.isCells = false → o.isWalk = false → KeptAt n₀ B W (W.putObj l o') :=
  fun W l o o' hl ho hc hk => ⟨belowK_b (w := w) hn W l o o' hl ho hc hk, World.putObj_heap_other (by omega)⟩
theorem kept_refl (n₀ B : Nat) (W : World) : KeptAt n₀ B W W := ⟨Below.refl _ _, rfl⟩
theorem kept_set {n₀ B : Nat} {W : World} {p : Addr} (u : Value) (hn : n₀ ≤ p.block) (hB : B ≠ p.block) : KeptAt n₀ B W (W.setCell p u) := ⟨(Below.refl _ _).setCell hn u, Below.heap_setCell W p u B hB⟩
theorem kept_grown {n₀ B : Nat} {W W' : World} {row : Option Nat} (hg : W.grownBy W' row) (hn : n₀ ≤ W.heap.size) (hr : ∀ r, row = some r → n₀ ≤ r) (hB : B < W.heap.size) (hne : row ≠ some B) : KeptAt n₀ B W W' :=
  ⟨(Below.refl _ _).grown hg hn hr, hg.block B hB (fun e => hne e.symm)⟩
theorem kept_alloc {n₀ B : Nat} {W : World} (o : Obj) (hn : n₀ ≤ W.heap.size) (hB : B < W.heap.size) : KeptAt n₀ B W (W.alloc o) := ⟨(Below.refl _ _).alloc hn _, Below.heap_alloc W o B hB⟩
/-- a row: what was put in, what was taken out, what was moved -/
abbrev rowV (i u : Int) (v : Value) : Value := .agg #[.int .i64 i, .int .i64 u, v]
/-- the result's cell, in a box -/
theorem box_kept {W : World} {B : Nat} {t : TypeId} {v : Value} (h : Boxed W B t v) {X : World} {row : Option Nat} (hg : W.grownBy X row) (hr : ∀ r, row = some r → ∃ o : Obj, W.heap[r]? = some o ∧ o.isCells = false) : Boxed X B t v :=
  h.kept hg (fun e' => by obtain ⟨o, ho, hc⟩ := hr B e'.symm; rw [show W.heap[B]? = _ from h] at ho; cases ho; cases hc)
/-- a row that came in, in a box of the call's own -/
theorem row_cells {wr : World} {g : Nat} {i u : Int} {v : Value} (h : Whole wr g 59 #[.int .i64 i, .int .i64 u, v]) :
    wr.cell? ⟨g, 0, none⟩ = some (.int .i64 i) ∧ wr.cell? ⟨g, 1, none⟩ = some (.int .i64 u) ∧ wr.cell? ⟨g, 2, none⟩ = some v := ⟨h.cell 0, h.cell 1, h.cell 2⟩
theorem info_int64 : (Try.prog.info? 2).map (fun i => (i.zero, i.size, i.bytes)) = some (some (.int .i64 0), 1, 8) := by kernel_rfl
/-- both joined, and true -/
def Joined (w : World) (n : Nat) (i u : Int) (l : List Int) (e : Ending) (w' : World) : Prop :=
  ∃ A C, e = .returned (.tuple #[rowV i u (.slice A n C), .bool true]) ∧ Nums w' (.slice A n C) l ∧ Below w.heap.size w w'
/-- none, and false -/
def Apart (w : World) (e : Ending) (w' : World) : Prop := e = .returned (.tuple #[rowV 0 0 (.slice none 0 0), .bool false]) ∧ Below w.heap.size w w'
theorem whole_kept {W : World} {g : Nat} {t : TypeId} {cs : Array Value} (h : Whole W g t cs) {X : World} {row : Option Nat} (hg : W.grownBy X row) (hr : ∀ r, row = some r → ∃ o : Obj, W.heap[r]? = some o ∧ o.isCells = false) : Whole X g t cs :=
  (hg.block g h.lt (fun e' => by obtain ⟨o, ho, hc⟩ := hr g e'.symm; rw [show W.heap[g]? = _ from h] at ho; cases ho; cases hc)).trans h
theorem own_kept {W : World} {base : Nat} {e : TypeId} {size k : Nat} {v : Value} {xs : List Value} (h : W.ownsRow base e size v k xs) {X : World} {row : Option Nat} (hg : W.grownBy X row) (hr : ∀ r, row = some r → ∃ o : Obj, W.heap[r]? = some o ∧ o.isCells = false) : X.ownsRow base e size v k xs := by
  refine h.kept hg ?_
  rcases h.2 with ⟨rfl, _⟩ | ⟨g, cap, cur, rfl, _, hgb, _⟩
  · exact .inl rfl
  · refine .inr fun e' => ?_
    obtain ⟨o, ho, hc⟩ := hr g (by simpa [Value.ownBlock] using e'.symm)
    rw [hgb] at ho; cases ho; cases hc
theorem flat_one (l : List Int) : l.map (Value.int .i64) = flatCells 1 l.length (fun i _ => .int .i64 (l[i]?.getD 0)) := by
  apply List.ext_getElem?
  intro i
  by_cases hi : i < l.length
  · have := flat_at 1 l.length (fun i _ => Value.int .i64 (l[i]?.getD 0)) i 0 hi (by decide)
    rw [Nat.mul_one, Nat.add_zero] at this
    rw [this]
    simp [List.getElem?_eq_getElem hi]
  · rw [List.getElem?_eq_none (by simp; omega), List.getElem?_eq_none (by rw [flat_length]; omega)]
/-- what a row of the call's own reads as -/
theorem nums_of_own {w : World} {base : Nat} {e : TypeId} {n : Nat} {v : Value} {l : List Int} (h : w.ownsRow base e 1 v n (l.map (Value.int .i64))) (hn : n = l.length) (hb : n ≤ 9223372036854775807) :
    ∃ A C, v = .slice A n C ∧ Nums w (.slice A n C) l := by
  subst hn
  rw [flat_one] at h
  obtain ⟨A, C, hv, _, hE⟩ := elems_of_own h hb
  exact ⟨A, C, hv, hE⟩
theorem grownBy_set (W : World) (p : Addr) (v : Value) : W.grownBy (W.setCell p v) (some p.block) :=
  ⟨rfl, rfl, rfl, by simp, fun k _ hk => Below.heap_setCell _ _ _ k (fun e => hk (by rw [e]))⟩
theorem Whole.not_row {W : World} {g : Nat} {t e : TypeId} {cs : Array Value} (h : Whole W g t cs) (hte : t ≠ e) {base size k : Nat} {v : Value} {xs : List Value} (hr : W.ownsRow base e size v k xs) : some g ≠ v.ownBlock := by
  rcases hr.2 with ⟨rfl, _⟩ | ⟨g', cap, cur, rfl, _, hgb, _⟩
  · simp [Value.ownBlock]
  · intro e'
    obtain rfl : g = g' := by simpa [Value.ownBlock] using e'
    have := (show W.heap[g]? = _ from h).symm.trans hgb
    simp at this
    exact hte this.2
/-- 'x.f = append(x.f, ..)', x a variable of the call's own: behind the append and the store -/
theorem row_push {W w1 : World} {n₀ g B : Nat} {t t2 e : TypeId} {x y sv v' u : Value} {k m : Nat} {xs ys : List Value} {tmp : Obj}
    (hw : Whole W g t #[x, y, sv]) (hbx : Boxed W B t2 u) (hte : t ≠ e) (hte2 : t2 ≠ e) (hBg : B ≠ g) (hrow : W.ownsRow n₀ e 1 sv k xs) (hn₀ : n₀ ≤ W.heap.size) (hg : n₀ ≤ g)
    (hown' : w1.ownsRow n₀ e 1 v' m ys) (hgrow : (W.alloc tmp).grownBy w1 sv.ownBlock) :
    Whole w1 g t #[x, y, sv] ∧ Whole (w1.setCell ⟨g, 2, none⟩ v') g t #[x, y, v'] ∧ (w1.setCell ⟨g, 2, none⟩ v').ownsRow n₀ e 1 v' m ys ∧ KeepsOthers W (w1.setCell ⟨g, 2, none⟩ v') ∧
      KeptAt n₀ B W (w1.setCell ⟨g, 2, none⟩ v') ∧ Boxed (w1.setCell ⟨g, 2, none⟩ v') B t2 u := by
  have hw1 : Whole w1 g t #[x, y, sv] := (hgrow.block g (hw.alloc tmp).lt (hw.not_row hte hrow)).trans (hw.alloc tmp)
  have hB1 : Boxed w1 B t2 u := (hbx.alloc tmp).kept hgrow (hbx.not_row hte2 hrow)
  have hB2 : Boxed (w1.setCell ⟨g, 2, none⟩ v') B t2 u := (Below.heap_setCell _ _ _ B hBg).trans hB1
  have hr0 : ∀ j, sv.ownBlock = some j → n₀ ≤ j ∧ ∃ o : Obj, (W.alloc tmp).heap[j]? = some o ∧ o.isCells = true := by
    intro j ej
    rcases (hrow.alloc tmp).2 with ⟨rfl, _⟩ | ⟨g', cap, cur, rfl, hb, hgb, _⟩
    · simp [Value.ownBlock] at ej
    · obtain rfl : g' = j := by simpa [Value.ownBlock] using ej
      exact ⟨hb, _, hgb, rfl⟩
  refine ⟨hw1, by simpa using hw1.set 2 v', hown'.kept (grownBy_set w1 _ v') (.inr (fun e' => hw1.not_row hte hown' e'.symm)), ?_, ⟨?_, ?_⟩, hB2⟩
  · exact ((KeepsOthers.alloc W tmp).trans (KeepsOthers.of_grownBy hgrow fun j o ej hj => by obtain ⟨_, o', ho', hc⟩ := hr0 j ej; rw [ho'] at hj; cases hj; exact hc)).trans (KeepsOthers.setCell _ _ _)
  · exact (((Below.refl n₀ W).alloc hn₀ tmp).grown hgrow (by simp; omega) fun j ej => (hr0 j ej).1).setCell (p := ⟨g, 2, none⟩) hg v'
  · exact (show _ = _ from hB2).trans (show _ = _ from hbx).symm
/-- the row stored over itself, and the rounds' block taken away -/
theorem row_left {w W : World} {n₀ g D : Nat} {t e : TypeId} {x y z : Value} {k : Nat} {xs : List Value} (hw : Whole W g t #[x, y, z]) (hte : t ≠ e) (hrow : W.ownsRow n₀ e 1 z k xs)
    (hK : W.heap[D]? = some (.deferred (some []))) (hB : Below n₀ w W) (hg : n₀ ≤ g) (hn : n₀ ≤ w.heap.size) (hD : n₀ ≤ D) :
    (((W.setCell ⟨g, 0, none⟩ x).setCell ⟨g, 1, none⟩ y).setCell ⟨g, 2, none⟩ z).heap[D]? = some (.deferred (some [])) ∧
    Whole ((((W.setCell ⟨g, 0, none⟩ x).setCell ⟨g, 1, none⟩ y).setCell ⟨g, 2, none⟩ z).putObj D (.deferred none)) g t #[x, y, z] ∧
    ((((W.setCell ⟨g, 0, none⟩ x).setCell ⟨g, 1, none⟩ y).setCell ⟨g, 2, none⟩ z).putObj D (.deferred none)).ownsRow n₀ e 1 z k xs ∧
    Below n₀ w ((((W.setCell ⟨g, 0, none⟩ x).setCell ⟨g, 1, none⟩ y).setCell ⟨g, 2, none⟩ z).putObj D (.deferred none)) := by
  have h1 : Whole (((W.setCell ⟨g, 0, none⟩ x).setCell ⟨g, 1, none⟩ y).setCell ⟨g, 2, none⟩ z) g t #[x, y, z] := by simpa using ((hw.set 0 x).set 1 y).set 2 z
  have hne := hw.not_row hte hrow
  have h2 : (((W.setCell ⟨g, 0, none⟩ x).setCell ⟨g, 1, none⟩ y).setCell ⟨g, 2, none⟩ z).ownsRow n₀ e 1 z k xs :=
    ((hrow.kept (grownBy_set W ⟨g, 0, none⟩ x) (.inr hne.symm)).kept (grownBy_set _ ⟨g, 1, none⟩ y) (.inr hne.symm)).kept (grownBy_set _ ⟨g, 2, none⟩ z) (.inr hne.symm)
  have h3 := (((KeepsOthers.setCell W ⟨g, 0, none⟩ x).trans (KeepsOthers.setCell _ ⟨g, 1, none⟩ y)).trans (KeepsOthers.setCell _ ⟨g, 2, none⟩ z)).same D _ hK rfl
  have h4 : Below n₀ w (((W.setCell ⟨g, 0, none⟩ x).setCell ⟨g, 1, none⟩ y).setCell ⟨g, 2, none⟩ z) := ((hB.setCell hg x).setCell hg y).setCell hg z
  exact ⟨h3, whole_kept h1 (grownBy_putObj' _ D _) (fun r e => by cases e; exact ⟨_, h3, rfl⟩), ownsRow_putObj h2 _ h3 rfl, h4.grown (grownBy_putObj' _ D _) (Nat.le_trans hn h4.size) (fun r e => by cases e; exact hD)⟩
theorem below_made {w : World} {B : Nat} (h : B ≤ w.heap.size) {p q r : Addr} (hp : B ≤ p.block) (hq : B ≤ q.block) (hr : B ≤ r.block) (x y z : Value) (o : Obj) : Below B w ((((w.setCell p x).setCell q y).setCell r z).alloc o).drew :=
  (((((Below.refl _ _).setCell hp x).setCell hq y).setCell hr z).alloc (by simpa using h) o).drew
/-- the new row's block, behind the make and the store -/
theorem made_facts {w : World} {g base n : Nat} {t : TypeId} {c0 c1 c2 : Value} (h : Whole w g t #[c0, c1, c2]) (hb : base ≤ w.heap.size) (x y z : Value) (e : TypeId) (hn : n ≤ maxLen) (hz : z = .slice (some ⟨w.heap.size, 0, none⟩) 0 n) :
    Whole ((((w.setCell ⟨g, 0, none⟩ x).setCell ⟨g, 1, none⟩ y).setCell ⟨g, 2, none⟩ z).alloc (.cells (madeCells #[.int .i64 0] n) e)).drew g t #[x, y, z] ∧
    ((((w.setCell ⟨g, 0, none⟩ x).setCell ⟨g, 1, none⟩ y).setCell ⟨g, 2, none⟩ z).alloc (.cells (madeCells #[.int .i64 0] n) e)).drew.ownsRow base e 1 z 0 [] := by
  refine ⟨((((h.set 0 x).set 1 y).set 2 z).alloc _).drew, ?_⟩
  have hs : (((w.setCell ⟨g, 0, none⟩ x).setCell ⟨g, 1, none⟩ y).setCell ⟨g, 2, none⟩ z).heap.size = w.heap.size := by simp
  have := World.ownsRow_made (base := base) (e := e) (size := 1) (((w.setCell ⟨g, 0, none⟩ x).setCell ⟨g, 1, none⟩ y).setCell ⟨g, 2, none⟩ z) (madeCells #[.int .i64 0] n) n (by rw [hs]; exact hb) hn (by rw [size_madeCells, Nat.mul_one])
  rw [hs, ← hz] at this
  exact this.kept (row := none) ⟨rfl, rfl, rfl, Nat.le_refl _, fun _ _ _ => rfl⟩ (by cases z.ownBlock <;> simp)
theorem flat_push {k : Nat} {f g : Nat → Nat → Value} (h : g 0 0 = f k 0) : flatCells 1 (k + 1) (fun i j => if i < k then f i j else g (i - k) j) = flatCells 1 (k + 1) f := by
  unfold flatCells
  rw [List.flatMap_def, List.flatMap_def]
  congr 1
  apply List.map_congr_left
  intro i hi
  have hi' := List.mem_range.1 hi
  apply List.map_congr_left
  intro j hj
  have hj' := List.mem_range.1 hj
  obtain rfl : j = 0 := by omega
  by_cases hik : i < k
  · exact if_pos hik
  · obtain rfl : i = k := by omega
    exact (if_neg hik).trans (by rw [Nat.sub_self, h])
/-- a number by itself, in a block of the walk's own -/
theorem one_num {w : World} {g : Nat} {x : Int} (h : Whole w g 2 #[.int .i64 x]) : Elems w (.slice (some ⟨g, 0, none⟩) 1 1) 1 1 (fun _ _ => .int .i64 x) := by
  refine ⟨by decide, Or.inr ⟨g, 0, 1, rfl, Nat.le_refl _, fun i j hi hj => ?_⟩⟩
  obtain rfl : i = 0 := by omega
  obtain rfl : j = 0 := by omega
  exact h.cell 0
/-- both joined, and true, the list in memory of the call's own -/
def JoinedO (w : World) (n : Nat) (i u : Int) (l : List Int) (e : Ending) (w' : World) : Prop :=
  ∃ A C, e = .returned (.tuple #[rowV i u (.slice A n C), .bool true]) ∧ w'.ownsRow w.heap.size 2 1 (.slice A n C) n (l.map (Value.int .i64)) ∧ Below w.heap.size w w'
theorem JoinedO.joined {w : World} {n : Nat} {i u : Int} {l : List Int} {e : Ending} {w' : World} (h : JoinedO w n i u l e w') (hb : n ≤ 9223372036854775807) : Joined w n i u l e w' := by
  obtain ⟨A, C, h1, h2, h3⟩ := h
  have hl : n = l.length := by have := h2.1; simpa using this.symm
  obtain ⟨A', C', hv, hN⟩ := nums_of_own h2 hl hb
  simp only [Value.slice.injEq] at hv
  obtain ⟨rfl, _, rfl⟩ := hv
  exact ⟨A, C, h1, hN, h3⟩
theorem own_base {w : World} {base b2 : Nat} {e : TypeId} {s n : Nat} {v : Value} {xs : List Value} (h : w.ownsRow base e s v n xs) (hb : b2 ≤ base) : w.ownsRow b2 e s v n xs :=
  ⟨h.1, h.2.imp id fun ⟨g', cap, cur, e, hb', hh⟩ => ⟨g', cap, cur, e, Nat.le_trans hb hb', hh⟩⟩
end Go.Proofs.Ytfpadcfahfanoaa
