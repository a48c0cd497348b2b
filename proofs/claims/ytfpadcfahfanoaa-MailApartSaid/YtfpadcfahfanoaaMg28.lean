/- Merged texts: LooksMade, ElemsOff, MailBox. No law is proved here. -/
import Derived.Test.YtfpadcfahfanoaaMg6
import Derived.Laws.MakeOwn
import Derived.Test.YtfpadcfahfanoaaMg0
import Derived.Test.YtfpadcfahfanoaaMg9
import Derived.Test.YtfpadcfahfanoaaMg13
import Derived.Test.YtfpadcfahfanoaaRowWorld
/- Looks made at once, one of them set. No function of the program in it. No law is proved here. -/
namespace Go.Proofs.Ytfpadcfahfanoaa
open Go.RowKit

theorem info_look : (Try.prog.info? 32).map (fun i => (i.zero, i.size, i.bytes)) = some (some (.agg #[.int .i64 0, .int .i64 0]), 2, 16) := by kernel_rfl
theorem made_look {m j : Nat} (h : j < m * 2) : (madeCells #[.int .i64 0, .int .i64 0] (m * 2))[j]? = some (.int .i64 0) := by
  unfold madeCells
  rw [Array.getElem?_map, Array.getElem?_range, if_pos h]
  have : j % 2 = 0 ∨ j % 2 = 1 := by omega
  rcases this with e | e
  · show some ((#[Value.int .i64 0, Value.int .i64 0])[j % 2]!) = _; rw [e]; rfl
  · show some ((#[Value.int .i64 0, Value.int .i64 0])[j % 2]!) = _; rw [e]; rfl
theorem run_make_looks {w : World} {m : Nat} (h16 : m ≤ 1000) : (Instr.makeSlice 33 (.int .i64 (m : Int)) (.int .i64 (m : Int))).run Try.prog w = .ok (.slice (some ⟨w.heap.size, 0, none⟩) m m) (w.alloc (.cells (madeCells #[.int .i64 0, .int .i64 0] (m * 2)) 32)) := by
  obtain ⟨i0, hi, hz0, hz1, hz2⟩ := info_parts info_look
  have := run_make (P := Try.prog) w 33 32 i0 (.agg #[.int .i64 0, .int .i64 0]) Try.underlying33 hi hz0 .i64 .i64 (m : Int) (m : Int) (by omega) (by omega) (by rw [hz2]; omega) (by omega)
  simpa [hz1, show (Value.agg #[.int .i64 0, .int .i64 0]).cells = #[.int .i64 0, .int .i64 0] from rfl] using this
theorem looks_set {w : World} {g m u : Nat} {t p : Int} (hm : m ≤ 1000) (hu : u < m) (h : Whole w g 32 (((madeCells #[.int .i64 0, .int .i64 0] (m * 2)).setIfInBounds (u * 2) (.int .i64 t)).setIfInBounds (u * 2 + 1) (.int .i64 p))) :
    Looks w (.slice (some ⟨g, 0, none⟩) m m) ((List.replicate m ((0, 0) : Int × Int)).set u (t, p)) := by
  have hl : ((List.replicate m ((0, 0) : Int × Int)).set u (t, p)).length = m := by rw [List.length_set, List.length_replicate]
  refine ⟨by rw [hl]; omega, Or.inr ⟨g, 0, m, by rw [hl], by rw [hl]; exact Nat.le_refl _, fun i j hi hj => ?_⟩⟩
  rw [hl] at hi
  rw [h.cell, Nat.zero_add, Array.getElem?_setIfInBounds, Array.getElem?_setIfInBounds, Array.size_setIfInBounds, size_madeCells]
  have hlk : lkAt ((List.replicate m ((0, 0) : Int × Int)).set u (t, p)) i = if i = u then (t, p) else (0, 0) := by
    unfold lkAt
    by_cases h : i = u
    · rw [if_pos h, h, List.getElem?_set_self (by simpa using hu)]; rfl
    · rw [if_neg h, List.getElem?_set_ne (fun e => h e.symm), List.getElem?_replicate, if_pos hi]; rfl
  show _ = some (lkc (lkAt ((List.replicate m ((0, 0) : Int × Int)).set u (t, p)) i) j)
  rw [hlk]
  by_cases h1 : i = u
  · subst h1
    rw [if_pos rfl]
    have hj2 : j = 0 ∨ j = 1 := by omega
    rcases hj2 with rfl | rfl
    · rw [if_neg (by omega), if_pos (by omega), if_pos (by omega)]; rfl
    · rw [if_pos (by omega), if_pos (by omega)]; rfl
  · rw [if_neg h1, if_neg (by omega), if_neg (by omega), made_look (by omega)]
    unfold lkc
    split <;> rfl
theorem ml_cells' {w : World} {g : Nat} {x : Ml} {rv ev : Value} (h : Whole w g 35 (mlCells x rv ev)) :
    (w.cell? ⟨g, 0, none⟩ = some (.int .i64 x.fr) ∧ w.cell? ⟨g, 1, none⟩ = some (.int .i64 x.to) ∧ w.cell? ⟨g, 2, none⟩ = some (.int .i64 x.clk) ∧ w.cell? ⟨g, 3, none⟩ = some rv) ∧
    (w.cell? ⟨g, 4, none⟩ = some (.int .i64 x.t) ∧ w.cell? ⟨g, 5, none⟩ = some (.int .i64 x.a) ∧ w.cell? ⟨g, 6, none⟩ = some (.int .i64 x.m) ∧ w.cell? ⟨g, 7, none⟩ = some (.int .i64 x.asks)) ∧
    w.cell? ⟨g, 8, none⟩ = some (.int .i64 x.try_) ∧ w.cell? ⟨g, 9, none⟩ = some (.int .i64 x.ph) ∧ w.cell? ⟨g, 10, none⟩ = some ev :=
  ⟨⟨h.cell 0, h.cell 1, h.cell 2, h.cell 3⟩, ⟨h.cell 4, h.cell 5, h.cell 6, h.cell 7⟩, h.cell 8, h.cell 9, h.cell 10⟩
end Go.Proofs.Ytfpadcfahfanoaa

/- A slice that does not lie where is written. No function of the program in it. No law is proved here. -/
namespace Go.Proofs.Ytfpadcfahfanoaa
open Go.ChangeShapes Go.WideShapes Go.ChangeAt Go.RowKit

/-- what lies in another block stays -/
theorem Elems.other {w : World} {A : Option Addr} {c sz n : Nat} {f : Nat → Nat → Value} (h : Elems w (.slice A n c) sz n f) {p : Addr} (hp : ∀ ad, A = some ad → ad.block ≠ p.block) (u : Value) : Elems (w.setCell p u) (.slice A n c) sz n f := by
  refine ⟨h.1, ?_⟩
  obtain ⟨_, h2 | ⟨b, off, cap, hv, hn, hcell⟩⟩ := h
  · exact Or.inl h2
  · refine Or.inr ⟨b, off, cap, hv, hn, fun i j hi hj => ?_⟩
    simp only [Value.slice.injEq] at hv
    have hb : b ≠ p.block := hp _ hv.1
    rw [← hcell i j hi hj]
    unfold World.cell?
    rw [Below.heap_setCell w p u b hb]
end Go.Proofs.Ytfpadcfahfanoaa

/- A message in a box that is written over; what a call answers. No function of the program in it. No law is proved here. -/
namespace Go.Proofs.Ytfpadcfahfanoaa
open Go.RowKit

abbrev ml0 : Ml := ⟨0, 0, 0, [], 0, 0, 0, 0, 0, 0, []⟩
/-- the message whose bytes they are, or none -/
def TookM (w : World) (x : Option Ml) (e : Ending) (w' : World) : Prop := ∃ (a1 : Option Addr) (m1 c1 : Nat) (a2 : Option Addr) (m2 c2 : Nat), e = .returned (.tuple #[mlV (x.getD ml0) (.slice a1 m1 c1) (.slice a2 m2 c2), .bool x.isSome]) ∧ MailIn w' a1 m1 c1 a2 m2 c2 (x.getD ml0) ∧ Below w.heap.size w w'
/-- eleven cells written -/
def ml11 (wx : World) (g : Nat) (x : Ml) (rv ev : Value) : World :=
  ((((((((((wx.setCell ⟨g, 0, none⟩ (.int .i64 x.fr)).setCell ⟨g, 1, none⟩ (.int .i64 x.to)).setCell ⟨g, 2, none⟩ (.int .i64 x.clk)).setCell ⟨g, 3, none⟩ rv).setCell ⟨g, 4, none⟩ (.int .i64 x.t)).setCell ⟨g, 5, none⟩ (.int .i64 x.a)).setCell ⟨g, 6, none⟩ (.int .i64 x.m)).setCell ⟨g, 7, none⟩ (.int .i64 x.asks)).setCell ⟨g, 8, none⟩ (.int .i64 x.try_)).setCell ⟨g, 9, none⟩ (.int .i64 x.ph)).setCell ⟨g, 10, none⟩ ev
theorem ml11_below {B : Nat} {w0 wx : World} {g : Nat} {x : Ml} {rv ev : Value} (hb : Below B w0 wx) (hg : B ≤ g) : Below B w0 (ml11 wx g x rv ev) :=
  ((((((((((hb.setCell (p := ⟨g, 0, none⟩) hg _).setCell (p := ⟨g, 1, none⟩) hg _).setCell (p := ⟨g, 2, none⟩) hg _).setCell (p := ⟨g, 3, none⟩) hg _).setCell (p := ⟨g, 4, none⟩) hg _).setCell (p := ⟨g, 5, none⟩) hg _).setCell (p := ⟨g, 6, none⟩) hg _).setCell (p := ⟨g, 7, none⟩) hg _).setCell (p := ⟨g, 8, none⟩) hg _).setCell (p := ⟨g, 9, none⟩) hg _).setCell (p := ⟨g, 10, none⟩) hg _
theorem ml11_cells (x y : Ml) (rv ev rv' ev' : Value) : ((((((((((((mlCells y rv' ev').setIfInBounds 0 (.int .i64 x.fr)).setIfInBounds 1 (.int .i64 x.to)).setIfInBounds 2 (.int .i64 x.clk)).setIfInBounds 3 rv).setIfInBounds 4 (.int .i64 x.t)).setIfInBounds 5 (.int .i64 x.a)).setIfInBounds 6 (.int .i64 x.m)).setIfInBounds 7 (.int .i64 x.asks)).setIfInBounds 8 (.int .i64 x.try_)).setIfInBounds 9 (.int .i64 x.ph)).setIfInBounds 10 ev) = mlCells x rv ev := by
  simp only [mlCells, List.setIfInBounds_toArray, List.set_cons_zero, List.set_cons_succ]
theorem ml11_whole {wx : World} {g : Nat} {x y : Ml} {rv ev rv' ev' : Value} (h : Whole wx g 35 (mlCells y rv' ev')) : Whole (ml11 wx g x rv ev) g 35 (mlCells x rv ev) := by
  have h1 := ((((((((((h.set 0 (.int .i64 x.fr)).set 1 (.int .i64 x.to)).set 2 (.int .i64 x.clk)).set 3 rv).set 4 (.int .i64 x.t)).set 5 (.int .i64 x.a)).set 6 (.int .i64 x.m)).set 7 (.int .i64 x.asks)).set 8 (.int .i64 x.try_)).set 9 (.int .i64 x.ph)).set 10 ev
  rw [ml11_cells] at h1
  exact h1
theorem ml11_far {wx : World} {g B : Nat} {x : Ml} {rv ev v : Value} {l : List Rw} (h : BooksFar B wx v l) (hg : g < B) : BooksFar B (ml11 wx g x rv ev) v l :=
  ((((((((((h.other (p := ⟨g, 0, none⟩) hg _).other (p := ⟨g, 1, none⟩) hg _).other (p := ⟨g, 2, none⟩) hg _).other (p := ⟨g, 3, none⟩) hg _).other (p := ⟨g, 4, none⟩) hg _).other (p := ⟨g, 5, none⟩) hg _).other (p := ⟨g, 6, none⟩) hg _).other (p := ⟨g, 7, none⟩) hg _).other (p := ⟨g, 8, none⟩) hg _).other (p := ⟨g, 9, none⟩) hg _).other (p := ⟨g, 10, none⟩) hg _
theorem ml11_elems {wx : World} {g sz n c : Nat} {A : Option Addr} {f : Nat → Nat → Value} {x : Ml} {rv ev : Value} (h : Elems wx (.slice A n c) sz n f) (hg : ∀ ad, A = some ad → ad.block ≠ g) : Elems (ml11 wx g x rv ev) (.slice A n c) sz n f :=
  ((((((((((h.other (p := ⟨g, 0, none⟩) hg _).other (p := ⟨g, 1, none⟩) hg _).other (p := ⟨g, 2, none⟩) hg _).other (p := ⟨g, 3, none⟩) hg _).other (p := ⟨g, 4, none⟩) hg _).other (p := ⟨g, 5, none⟩) hg _).other (p := ⟨g, 6, none⟩) hg _).other (p := ⟨g, 7, none⟩) hg _).other (p := ⟨g, 8, none⟩) hg _).other (p := ⟨g, 9, none⟩) hg _).other (p := ⟨g, 10, none⟩) hg _
theorem looks_nil (w : World) (a : Option Addr) (c : Nat) (h : a = none → c = 0) : Looks w (.slice a 0 c) [] := elems_nil w a c 2 _ h
theorem mail_none (w : World) : MailIn w none 0 0 none 0 0 ml0 := ⟨rfl, books_nil _ _ _ (fun _ => rfl), rfl, looks_nil _ _ _ (fun _ => rfl)⟩
/-- one look in a block of its own is a slice of one -/
theorem one_look {w : World} {g : Nat} {t p : Int} (h : Whole w g 32 #[.int .i64 t, .int .i64 p]) : Elems w (.slice (some ⟨g, 0, none⟩) 1 1) 2 1 (fun _ j => lkc (t, p) j) := by
  refine ⟨by decide, Or.inr ⟨g, 0, 1, rfl, Nat.le_refl _, fun i j hi hj => ?_⟩⟩
  obtain rfl : i = 0 := by omega
  have hc := h.cell
  match j, hj with
  | 0, _ => exact hc 0
  | 1, _ => exact hc 1
theorem flat_ext {sz n : Nat} {f g : Nat → Nat → Value} (h : ∀ i j, i < n → j < sz → f i j = g i j) : flatCells sz n f = flatCells sz n g := by
  unfold flatCells
  rw [List.flatMap_def, List.flatMap_def]
  congr 1
  refine List.map_congr_left fun i hi => List.map_congr_left fun j hj => h i j (List.mem_range.1 hi) (List.mem_range.1 hj)
theorem own_off {w : World} {base : Nat} {e : TypeId} {sz n c : Nat} {A : Option Addr} {xs : List Value} (h : w.ownsRow base e sz (.slice A n c) n xs) : ∀ ad, A = some ad → base ≤ ad.block := fun ad had => by
  subst had
  rcases h.2 with ⟨h3, _⟩ | ⟨g, cap, cur, h3, hg, _⟩
  · cases h3
  · simp only [Value.slice.injEq, Option.some.injEq] at h3
    rw [h3.1]; exact hg
/-- one look more, behind looks of the call's own -/
theorem looks_push_at {w : World} {base g : Nat} {v : Value} {E : List (Int × Int)} {k : Nat} (t p : Int) (hE : lkAt E k = (t, p)) (hone : Whole w g 32 #[.int .i64 t, .int .i64 p]) (hown : w.ownsRow base 32 2 v k (flatCells 2 k (fun i j => lkc (lkAt E i) j))) (hb : base ≤ w.heap.size) (h : k ≤ 1000) :
    ∃ A C w', (Builtin.append_ #[33, 33] 33 #[v, .slice (some ⟨g, 0, none⟩) 1 1]).run Try.prog w = .ok (.slice A (k + 1) C) w' ∧
      w'.ownsRow base 32 2 (.slice A (k + 1) C) (k + 1) (flatCells 2 (k + 1) (fun i j => lkc (lkAt E i) j)) ∧ Below base w w' ∧ Grew w w' v (.slice A (k + 1) C) := by
  obtain ⟨i0, hi, hz0, hz1, hz2⟩ := info_parts info_look
  obtain ⟨v', w', hrun, q1, q2, q3⟩ := run_append_elems (P := Try.prog) (w := w) 33 33 base 32 i0 _ 2 16 Try.underlying33 hi hz0 hz1 hz2 rfl (by decide)
    v k (fun i j => lkc (lkAt E i) j) hown (some ⟨g, 0, none⟩) 1 1 (fun _ j => lkc (t, p) j) (one_look hone) (fun _ _ _ _ => rfl) (by unfold maxLen; omega) (by omega) hb
  rw [flat_ext (g := fun i j => lkc (lkAt E i) j) (fun i j hi _ => by
    by_cases h : i < k
    · simp only [if_pos h]
    · obtain rfl : i = k := by omega
      simp only [Nat.lt_irrefl, if_false]
      rw [hE])] at q1
  obtain ⟨A, C, rfl, _, _⟩ := elems_of_own q1 (by omega)
  exact ⟨A, C, w', hrun, q1, q2, q3⟩
end Go.Proofs.Ytfpadcfahfanoaa
