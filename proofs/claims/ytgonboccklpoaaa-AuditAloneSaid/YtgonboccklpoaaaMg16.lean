/- Merged texts: ElemsOff, AuditOff, RqEql, StampMay, RefClaimNeq. No law is proved here. -/
import Derived.Test.YtgonboccklpoaaaMg1
import Derived.Test.YtgonboccklpoaaaAuditWords
import Derived.Test.YtgonboccklpoaaaMg8
import Derived.WalkKit
import Derived.ProofKit
import Derived.WalkLawsBesides
import Derived.ChangeSame
import Derived.Deep.QuietTactic
import Derived.BigQuiet
import Derived.Test.YtgonboccklpoaaaClaimWords
import Derived.OpenShut
import Derived.WalkSpells
import Derived.Lib.Hide
import Derived.Deep.Draws
import Derived.Deep.Slices
import Derived.Deep.Fields
import Derived.RegionTactic
import Derived.LoopTactic
import Derived.IntWalk
import Derived.Deep.DeepCutAuto
/- A slice that does not lie where is written. No function of the program in it. No law is proved here. -/
namespace Go.Proofs.Ytgonboccklpoaaa
open Go.ChangeShapes Go.WideShapes Go.ChangeAt Go.RowKit

/-- what lies in another block stays -/
theorem Elems.other {w : World} {A : Option Addr} {c sz n : Nat} {f : Nat → Nat → Value} (h : Elems w (.slice A n c) sz n f) {p : Addr} (hp : ∀ ad, A = some ad → ad.block ≠ p.block) (u : Value) : Elems (w.setCell p u) (.slice A n c) sz n f := by
  refine ⟨h.1, ?_⟩
  obtain ⟨_, h2 | ⟨b, off, cap, hv, hn, hcell⟩⟩ := h
  · exact Or.inl h2
  · refine Or.inr ⟨b, off, cap, hv, hn, fun i j hi hj => ?_⟩
    simp only [Value.slice.injEq] at hv
    have hb : b ≠ p.block := hp _ hv.1
    rw [← hcell i j hi hj]
    unfold World.cell?
    rw [Below.heap_setCell w p u b hb]
end Go.Proofs.Ytgonboccklpoaaa

/- An audit in a box that is written over; where its lists don't lie. No function of the program in it. No law is proved here. -/
namespace Go.Proofs.Ytgonboccklpoaaa
open Go.RowKit

/-- none of an audit's lists lies in block g -/
def OffAl (g : Nat) (p : Al) : Prop := (∀ ad, p.a1 = some ad → ad.block ≠ g) ∧ (∀ ad, p.a2 = some ad → ad.block ≠ g) ∧ ∀ ad, p.a3 = some ad → ad.block ≠ g
theorem AuIn.other {w : World} {p : Al} {x : Au} (h : AuIn w p x) {q : Addr} (ho : OffAl q.block p) (u : Value) : AuIn (w.setCell q u) p x := by
  obtain ⟨⟨h1, b1⟩, ⟨h2, b2⟩, h3, b3⟩ := h
  refine ⟨⟨h1, ?_⟩, ⟨h2, ?_⟩, h3, ?_⟩
  · unfold Bools at b1 ⊢; rw [h1] at b1 ⊢; exact Elems.other b1 ho.1 u
  · unfold Nums at b2 ⊢; rw [h2] at b2 ⊢; exact Elems.other b2 ho.2.1 u
  · unfold Nums at b3 ⊢; rw [h3] at b3 ⊢; exact Elems.other b3 ho.2.2 u
/-- an audit that a call answers, and a code; where what came in does not lie in a block, the answer doesn't either -/
def GaveAO (w : World) (F : Nat → Prop) (x : Au × Int) (e : Ending) (w' : World) : Prop := ∃ p : Al, e = .returned (.tuple #[auAt x.1 p, .int .i64 x.2]) ∧ AuIn w' p x.1 ∧ Below w.heap.size w w' ∧ ∀ g, F g → (g < w.heap.size ∨ w'.heap.size ≤ g) → OffAl g p
def GoesAO (w : World) (F : Nat → Prop) (x : Au × Bool) (e : Ending) (w' : World) : Prop := ∃ p : Al, e = .returned (.tuple #[auAt x.1 p, .bool x.2]) ∧ AuIn w' p x.1 ∧ Below w.heap.size w w' ∧ ∀ g, F g → (g < w.heap.size ∨ w'.heap.size ≤ g) → OffAl g p
theorem GaveAO.gave {w : World} {F : Nat → Prop} {x : Au × Int} {e : Ending} {w' : World} (h : GaveAO w F x e w') : GaveA w x e w' := by
  obtain ⟨p, h1, h2, h3, _⟩ := h; exact ⟨p, h1, h2, h3⟩
theorem GoesAO.goes {w : World} {F : Nat → Prop} {x : Au × Bool} {e : Ending} {w' : World} (h : GoesAO w F x e w') : GoesA w x e w' := by
  obtain ⟨p, h1, h2, h3, _⟩ := h; exact ⟨p, h1, h2, h3⟩
/-- an audit in the box behind w0, its lists neither in that box nor in what is still to come; and what was there -/
def BoxA (w0 : World) (x : Au) (p : Al) (wr : World) : Prop := (Whole wr w0.heap.size 33 (auCells x (.slice p.a1 p.m1 p.c1) (.slice p.a2 p.m2 p.c2) (.slice p.a3 p.m3 p.c3)) ∧ AuIn wr p x ∧ OffAl w0.heap.size p ∧ Below w0.heap.size w0 wr) ∧ ∀ g, wr.heap.size ≤ g → OffAl g p
theorem BoxA.later {w0 : World} {x : Au} {p : Al} {wr w' : World} (h : BoxA w0 x p wr) (hb : Below wr.heap.size wr w') : BoxA w0 x p w' := ⟨⟨h.1.1.later hb h.1.1.lt, h.1.2.1.later hb, h.1.2.2.1, held_next h.1.2.2.2 hb⟩, fun g hg => h.2 g (Nat.le_trans hb.size hg)⟩
theorem boxA_made {w0 : World} {x : Au} {p : Al} (hA : AuIn w0 p x) (hf : ∀ g, w0.heap.size ≤ g → OffAl g p) : BoxA w0 x p (w0.alloc (.cells (auCells x (.slice p.a1 p.m1 p.c1) (.slice p.a2 p.m2 p.c2) (.slice p.a3 p.m3 p.c3)) 33)) :=
  ⟨⟨Whole.made _ _ _, hA.later (below_box _ _), hf _ (Nat.le_refl _), below_box _ _⟩, fun g hg => hf g (Nat.le_trans (below_box w0 (.cells (auCells x (.slice p.a1 p.m1 p.c1) (.slice p.a2 p.m2 p.c2) (.slice p.a3 p.m3 p.c3)) 33)).size hg)⟩
/-- six cells written -/
def au6 (wx : World) (g : Nat) (y : Au) (p : Al) : World := (((((wx.setCell ⟨g, 0, none⟩ (.int .i64 y.try_)).setCell ⟨g, 1, none⟩ (.int .i64 y.ph)).setCell ⟨g, 2, none⟩ (.slice p.a1 p.m1 p.c1)).setCell ⟨g, 3, none⟩ (.slice p.a2 p.m2 p.c2)).setCell ⟨g, 4, none⟩ (.slice p.a3 p.m3 p.c3)).setCell ⟨g, 5, none⟩ (.bool y.moved)
theorem au6_whole {wx : World} {g : Nat} {x y : Au} {v1 v2 v3 : Value} {p : Al} (h : Whole wx g 33 (auCells x v1 v2 v3)) : Whole (au6 wx g y p) g 33 (auCells y (.slice p.a1 p.m1 p.c1) (.slice p.a2 p.m2 p.c2) (.slice p.a3 p.m3 p.c3)) :=
  (((((h.set 0 (.int .i64 y.try_)).set 1 (.int .i64 y.ph)).set 2 (.slice p.a1 p.m1 p.c1)).set 3 (.slice p.a2 p.m2 p.c2)).set 4 (.slice p.a3 p.m3 p.c3)).set 5 (.bool y.moved)
theorem au6_in {wx : World} {g : Nat} {y x : Au} {p q : Al} (hA : AuIn wx q x) (ho : OffAl g q) : AuIn (au6 wx g y p) q x :=
  (((((hA.other (q := ⟨g, 0, none⟩) ho _).other (q := ⟨g, 1, none⟩) ho _).other (q := ⟨g, 2, none⟩) ho _).other (q := ⟨g, 3, none⟩) ho _).other (q := ⟨g, 4, none⟩) ho _).other (q := ⟨g, 5, none⟩) ho _
theorem au6_below {B : Nat} {w0 wx : World} {g : Nat} {y : Au} {p : Al} (hb : Below B w0 wx) (hg : B ≤ g) : Below B w0 (au6 wx g y p) :=
  (((((hb.setCell (p := ⟨g, 0, none⟩) hg _).setCell (p := ⟨g, 1, none⟩) hg _).setCell (p := ⟨g, 2, none⟩) hg _).setCell (p := ⟨g, 3, none⟩) hg _).setCell (p := ⟨g, 4, none⟩) hg _).setCell (p := ⟨g, 5, none⟩) hg _
theorem au6_size {wx : World} {g : Nat} {y : Au} {p : Al} : (au6 wx g y p).heap.size = wx.heap.size := by simp [au6]
theorem boxA_set {w0 wx : World} {x y : Au} {v1 v2 v3 : Value} {p : Al} (h : Whole wx w0.heap.size 33 (auCells x v1 v2 v3)) (hA : AuIn wx p y) (ho : OffAl w0.heap.size p) (hb : Below w0.heap.size w0 wx) (hf : ∀ g, wx.heap.size ≤ g → OffAl g p) :
    BoxA w0 y p (au6 wx w0.heap.size y p) := ⟨⟨au6_whole h, au6_in hA ho, ho, au6_below hb (Nat.le_refl _)⟩, fun g hg => hf g (by rw [au6_size] at hg; exact hg)⟩
end Go.Proofs.Ytgonboccklpoaaa

/- Two requests, by == : their fields. No law is proved here. -/
namespace Go.Proofs.Ytgonboccklpoaaa
open Go.RowKit

theorem run_eql_rqs (w : World) (x y : Rq) : (binOp .eql 37 (rqV x) (rqV y)).run Try.prog w = .ok (.bool (decide (x = y))) w := by
  obtain ⟨t, a, m⟩ := x
  obtain ⟨u, b, n⟩ := y
  by_cases h1 : t = u
  · subst h1
    by_cases h2 : a = b
    · subst h2
      by_cases h3 : m = n
      · subst h3; simp [go_sem, Try.underlying37, Try.underlying35]
      · simp [go_sem, Try.underlying37, Try.underlying35, h3]
    · simp [go_sem, Try.underlying37, Try.underlying35, h2]
  · simp [go_sem, Try.underlying37, Try.underlying35, h1]
end Go.Proofs.Ytgonboccklpoaaa

/- Stamps by value: the walk of May, by what it answers. No law is proved here. -/
namespace Go.Proofs.Ytgonboccklpoaaa
open Go.RowKit

set_option maxHeartbeats 400000 in
theorem stampmay_calls (t a n : Int) (w : World) :
    Calls Try.prog 55 #[stampV t a, .int .i64 n] w (Says w (mayB t a n)) := by
  by_cases h : 1 ≤ t ∧ t ≤ 1125899906842624 ∧ 0 ≤ a ∧ a < n
  · rw [mayB_yes h]
    obtain ⟨h1, h2, h3, h4⟩ := h
    go_enter Try.func55, Try.ntmps55
    go_wp2_with fail
    go_ret
    exact ⟨by simp_all, below_box _ _⟩
  · rw [mayB_no h]
    by_cases h1 : 1 ≤ t
    · by_cases h2 : t ≤ 1125899906842624
      · by_cases h3 : 0 ≤ a
        · have h4 : ¬ a < n := by omega
          clear h
          go_enter Try.func55, Try.ntmps55
          go_wp2_with fail
          go_ret
          exact ⟨by simp_all, below_box _ _⟩
        · clear h
          go_enter Try.func55, Try.ntmps55
          go_wp2_with fail
          go_ret
          exact ⟨by simp_all, below_box _ _⟩
      · clear h
        go_enter Try.func55, Try.ntmps55
        go_wp2_with fail
        go_ret
        exact ⟨by simp_all, below_box _ _⟩
    · clear h
      go_enter Try.func55, Try.ntmps55
      go_wp2_with fail
      go_ret
      exact ⟨by simp_all, below_box _ _⟩
end Go.Proofs.Ytgonboccklpoaaa

/- Two notes, by != : their fields. No law is proved here. -/
namespace Go.Proofs.Ytgonboccklpoaaa
open Go.RowKit

set_option maxHeartbeats 4000000 in
theorem run_neq_nt (w : World) (x y : Nt) : (binOp .neq 70 (ntV x) (ntV y)).run Try.prog w = .ok (.bool (!decide ((x : Nt) = y))) w := by
  obtain ⟨x0, x1, x2, x3, x4, x5, x6⟩ := x
  obtain ⟨y0, y1, y2, y3, y4, y5, y6⟩ := y
  by_cases h0 : x0 = y0
  · subst h0
    by_cases h1 : x1 = y1
    · subst h1
      by_cases h2 : x2 = y2
      · subst h2
        by_cases h3 : x3 = y3
        · subst h3
          by_cases h4 : x4 = y4
          · subst h4
            by_cases h5 : x5 = y5
            · subst h5
              by_cases h6 : x6 = y6
              · subst h6
                simp [go_sem, Try.underlying70, Try.underlying37, Try.underlying35, Try.underlying29]
              · have g6 : (x6 == y6) = false := beq_eq_false_iff_ne.2 h6
                simp [go_sem, Try.underlying70, Try.underlying37, Try.underlying35, Try.underlying29, h6]
            · have g5 : (x5 == y5) = false := beq_eq_false_iff_ne.2 h5
              simp [go_sem, Try.underlying70, Try.underlying37, Try.underlying35, Try.underlying29, h5]
          · have g4 : (x4 == y4) = false := beq_eq_false_iff_ne.2 h4
            simp [go_sem, Try.underlying70, Try.underlying37, Try.underlying35, Try.underlying29, h4]
        · have g3 : (x3 == y3) = false := beq_eq_false_iff_ne.2 h3
          simp [go_sem, Try.underlying70, Try.underlying37, Try.underlying35, Try.underlying29, h3]
      · have g2 : (x2 == y2) = false := beq_eq_false_iff_ne.2 h2
        simp [go_sem, Try.underlying70, Try.underlying37, Try.underlying35, Try.underlying29, h2]
    · have g1 : (x1 == y1) = false := beq_eq_false_iff_ne.2 h1
      simp [go_sem, Try.underlying70, Try.underlying37, Try.underlying35, Try.underlying29, h1]
  · have g0 : (x0 == y0) = false := beq_eq_false_iff_ne.2 h0
    simp [go_sem, Try.underlying70, Try.underlying37, Try.underlying35, Try.underlying29, h0]
end Go.Proofs.Ytgonboccklpoaaa
