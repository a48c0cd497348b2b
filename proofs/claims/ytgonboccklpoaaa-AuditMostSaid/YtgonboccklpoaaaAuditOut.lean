/- An audit that is written over in a box of the call's own, a row in another one: how each store leaves them. No function of the program in it. No law is proved here. -/
import Derived.Test.YtgonboccklpoaaaMg21
import Derived.Test.YtgonboccklpoaaaMg14
namespace Go.Proofs.Ytgonboccklpoaaa
open Go.RowKit

theorem off_own {a : Option Addr} {n c g : Nat} (h : ∀ ad, a = some ad → ad.block ≠ g) : (Value.slice a n c).ownBlock ≠ some g := by
  cases a with
  | none => simp [Value.ownBlock]
  | some ad => intro e; exact h ad rfl (by simpa [Value.ownBlock] using e)
theorem OwnAu.other {w : World} {B : Nat} {p : Al} {x : Au} (h : OwnAu w B p x) {q : Addr} (hq : OffAl q.block p) (u : Value) : OwnAu (w.setCell q u) B p x :=
  ⟨⟨h.1.1, own_other h.1.2 (off_own hq.1) u⟩, ⟨h.2.1.1, own_other h.2.1.2 (off_own hq.2.1) u⟩, ⟨h.2.2.1.1, own_other h.2.2.1.2 (off_own hq.2.2) u⟩, h.2.2.2⟩
theorem OwnAu.six_off {w : World} {B : Nat} {p : Al} {x : Au} (h : OwnAu w B p x) {g : Nat} (hq : OffAl g p) (y : Au) (r : Al) : OwnAu (au6 w g y r) B p x :=
  (((((h.other (q := ⟨g, 0, none⟩) hq _).other (q := ⟨g, 1, none⟩) hq _).other (q := ⟨g, 2, none⟩) hq _).other (q := ⟨g, 3, none⟩) hq _).other (q := ⟨g, 4, none⟩) hq _).other (q := ⟨g, 5, none⟩) hq _
theorem OwnAu.setInc {w : World} {B : Nat} {p : Al} {tr ph : Int} {told : List Bool} {use inc : List Int} {moved : Bool} (h : OwnAu w B p ⟨tr, ph, told, use, inc, moved⟩) {i : Nat} (hi : i < inc.length) (v : Int) :
    ∃ b, p.a3 = some ⟨b, 0, none⟩ ∧ B ≤ b ∧ w.frozen? ⟨b, i, none⟩ = false ∧ w.cell? ⟨b, i, none⟩ = some (.int .i64 (inc[i]?.getD 0)) ∧ OwnAu (w.setCell ⟨b, i, none⟩ (.int .i64 v)) B p ⟨tr, ph, told, use, inc.set i v, moved⟩ := by
  obtain ⟨b, C, hv, hlo, hlt, hf, hc, ho⟩ := own_n_set h.2.2.1.2 hi v
  obtain ⟨a1, m1, k1, a2, m2, k2, a3, m3, k3⟩ := p
  simp only [Value.slice.injEq] at hv
  obtain ⟨rfl, -, rfl⟩ := hv
  refine ⟨b, rfl, hlo, hf, hc, ⟨h.1.1, own_other h.1.2 ?_ _⟩, ⟨h.2.1.1, own_other h.2.1.2 ?_ _⟩, ⟨by have := h.2.2.1.1; rw [List.length_set]; exact this, ho⟩, h.2.2.2⟩
  · exact own_apart h.2.2.1.2 h.1.2 (by decide) rfl
  · exact fun e => h.2.2.2 _ e rfl
theorem OwnAu.setUse {w : World} {B : Nat} {p : Al} {tr ph : Int} {told : List Bool} {use inc : List Int} {moved : Bool} (h : OwnAu w B p ⟨tr, ph, told, use, inc, moved⟩) {i : Nat} (hi : i < use.length) (v : Int) :
    ∃ b, p.a2 = some ⟨b, 0, none⟩ ∧ B ≤ b ∧ w.frozen? ⟨b, i, none⟩ = false ∧ w.cell? ⟨b, i, none⟩ = some (.int .i64 (use[i]?.getD 0)) ∧ OwnAu (w.setCell ⟨b, i, none⟩ (.int .i64 v)) B p ⟨tr, ph, told, use.set i v, inc, moved⟩ := by
  obtain ⟨b, C, hv, hlo, hlt, hf, hc, ho⟩ := own_n_set h.2.1.2 hi v
  obtain ⟨a1, m1, k1, a2, m2, k2, a3, m3, k3⟩ := p
  simp only [Value.slice.injEq] at hv
  obtain ⟨rfl, -, rfl⟩ := hv
  refine ⟨b, rfl, hlo, hf, hc, ⟨h.1.1, own_other h.1.2 ?_ _⟩, ⟨by have := h.2.1.1; rw [List.length_set]; exact this, ho⟩, ⟨h.2.2.1.1, own_other h.2.2.1.2 ?_ _⟩, h.2.2.2⟩
  · exact own_apart h.2.1.2 h.1.2 (by decide) rfl
  · exact h.2.2.2 b rfl
theorem OwnAu.setTold {w : World} {B : Nat} {p : Al} {tr ph : Int} {told : List Bool} {use inc : List Int} {moved : Bool} (h : OwnAu w B p ⟨tr, ph, told, use, inc, moved⟩) {i : Nat} (hi : i < told.length) (v : Bool) :
    ∃ b, p.a1 = some ⟨b, 0, none⟩ ∧ B ≤ b ∧ w.frozen? ⟨b, i, none⟩ = false ∧ w.cell? ⟨b, i, none⟩ = some (.bool (told[i]?.getD false)) ∧ OwnAu (w.setCell ⟨b, i, none⟩ (.bool v)) B p ⟨tr, ph, told.set i v, use, inc, moved⟩ := by
  obtain ⟨b, C, hv, hlo, hlt, hf, hc, ho⟩ := own_t_set h.1.2 hi v
  obtain ⟨a1, m1, k1, a2, m2, k2, a3, m3, k3⟩ := p
  simp only [Value.slice.injEq] at hv
  obtain ⟨rfl, -, rfl⟩ := hv
  refine ⟨b, rfl, hlo, hf, hc, ⟨by have := h.1.1; rw [List.length_set]; exact this, ho⟩, ⟨h.2.1.1, own_other h.2.1.2 ?_ _⟩, ⟨h.2.2.1.1, own_other h.2.2.1.2 ?_ _⟩, h.2.2.2⟩
  · exact own_apart h.1.2 h.2.1.2 (by decide) rfl
  · exact own_apart h.1.2 h.2.2.1.2 (by decide) rfl
/-- the result's box as it was, a row in a box, an audit in another, its lists the call's own -/
def OutA (w0 : World) (B g h : Nat) (rc : Array Value) (p : Al) (y : Au) (wx : World) : Prop :=
  Below w0.heap.size w0 wx ∧ Whole wx (w0.heap.size + 1 + 1 + 1) 33 (auCells au0 (.slice none 0 0) (.slice none 0 0) (.slice none 0 0)) ∧ Whole wx h 58 rc ∧ Whole wx g 33 (auCells y (.slice p.a1 p.m1 p.c1) (.slice p.a2 p.m2 p.c2) (.slice p.a3 p.m3 p.c3)) ∧ OwnAu wx B p y ∧ OffAl g p ∧ OffAl h p ∧ g ≠ h ∧ w0.heap.size + 1 + 1 + 1 < B ∧ w0.heap.size + 1 + 1 + 1 < g ∧ w0.heap.size + 1 + 1 + 1 < h
theorem OutA.later {w0 w w' : World} {B g h : Nat} {rc : Array Value} {p : Al} {y : Au} (H : OutA w0 B g h rc p y w) (hb : Below w.heap.size w w') : OutA w0 B g h rc p y w' :=
  ⟨held_next H.1 hb, H.2.1.later hb H.2.1.lt, H.2.2.1.later hb H.2.2.1.lt, H.2.2.2.1.later hb H.2.2.2.1.lt, H.2.2.2.2.1.later hb, H.2.2.2.2.2⟩
theorem OutA.flag {w0 w : World} {B g h : Nat} {rc : Array Value} {p : Al} {tr ph : Int} {told : List Bool} {use inc : List Int} {moved : Bool} (H : OutA w0 B g h rc p ⟨tr, ph, told, use, inc, moved⟩ w) : OutA w0 B g h rc p ⟨tr, ph, told, use, inc, true⟩ (w.setCell ⟨g, 5, none⟩ (.bool true)) := by
  obtain ⟨h1, h2, h3, h4, h5, h6, h7, h8, h9, h10, h11⟩ := H
  exact ⟨h1.setCell (p := ⟨g, 5, none⟩) (by show w0.heap.size ≤ g; omega) _, h2.other (p := ⟨g, 5, none⟩) (by show _ ≠ g; omega) _, h3.other (p := ⟨g, 5, none⟩) (fun e => h8 e.symm) _, h4.set 5 _, h5.other (q := ⟨g, 5, none⟩) h6 _, h6, h7, h8, h9, h10, h11⟩
theorem OutA.inc {w0 w : World} {B g h : Nat} {rc : Array Value} {p : Al} {tr ph : Int} {told : List Bool} {use inc : List Int} {moved : Bool} (H : OutA w0 B g h rc p ⟨tr, ph, told, use, inc, moved⟩ w) {i : Nat} (hi : i < inc.length) (v : Int) :
    ∃ b, p.a3 = some ⟨b, 0, none⟩ ∧ w.frozen? ⟨b, i, none⟩ = false ∧ w.cell? ⟨b, i, none⟩ = some (.int .i64 (inc[i]?.getD 0)) ∧ OutA w0 B g h rc p ⟨tr, ph, told, use, inc.set i v, moved⟩ (w.setCell ⟨b, i, none⟩ (.int .i64 v)) := by
  obtain ⟨h1, h2, h3, h4, h5, h6, h7, h8, h9, h10, h11⟩ := H
  obtain ⟨b, hp, hB, hf, hc, ho⟩ := h5.setInc hi v
  exact ⟨b, hp, hf, hc, h1.setCell (p := ⟨b, i, none⟩) (by show w0.heap.size ≤ b; omega) _, h2.other (p := ⟨b, i, none⟩) (by show _ ≠ b; omega) _, h3.other (p := ⟨b, i, none⟩) (fun e => h7.2.2 _ hp e.symm) _, h4.other (p := ⟨b, i, none⟩) (fun e => h6.2.2 _ hp e.symm) _, ho, h6, h7, h8, h9, h10, h11⟩
theorem OutA.use {w0 w : World} {B g h : Nat} {rc : Array Value} {p : Al} {tr ph : Int} {told : List Bool} {use inc : List Int} {moved : Bool} (H : OutA w0 B g h rc p ⟨tr, ph, told, use, inc, moved⟩ w) {i : Nat} (hi : i < use.length) (v : Int) :
    ∃ b, p.a2 = some ⟨b, 0, none⟩ ∧ w.frozen? ⟨b, i, none⟩ = false ∧ w.cell? ⟨b, i, none⟩ = some (.int .i64 (use[i]?.getD 0)) ∧ OutA w0 B g h rc p ⟨tr, ph, told, use.set i v, inc, moved⟩ (w.setCell ⟨b, i, none⟩ (.int .i64 v)) := by
  obtain ⟨h1, h2, h3, h4, h5, h6, h7, h8, h9, h10, h11⟩ := H
  obtain ⟨b, hp, hB, hf, hc, ho⟩ := h5.setUse hi v
  exact ⟨b, hp, hf, hc, h1.setCell (p := ⟨b, i, none⟩) (by show w0.heap.size ≤ b; omega) _, h2.other (p := ⟨b, i, none⟩) (by show _ ≠ b; omega) _, h3.other (p := ⟨b, i, none⟩) (fun e => h7.2.1 _ hp e.symm) _, h4.other (p := ⟨b, i, none⟩) (fun e => h6.2.1 _ hp e.symm) _, ho, h6, h7, h8, h9, h10, h11⟩
theorem OutA.told {w0 w : World} {B g h : Nat} {rc : Array Value} {p : Al} {tr ph : Int} {told : List Bool} {use inc : List Int} {moved : Bool} (H : OutA w0 B g h rc p ⟨tr, ph, told, use, inc, moved⟩ w) {i : Nat} (hi : i < told.length) (v : Bool) :
    ∃ b, p.a1 = some ⟨b, 0, none⟩ ∧ w.frozen? ⟨b, i, none⟩ = false ∧ w.cell? ⟨b, i, none⟩ = some (.bool (told[i]?.getD false)) ∧ OutA w0 B g h rc p ⟨tr, ph, told.set i v, use, inc, moved⟩ (w.setCell ⟨b, i, none⟩ (.bool v)) := by
  obtain ⟨h1, h2, h3, h4, h5, h6, h7, h8, h9, h10, h11⟩ := H
  obtain ⟨b, hp, hB, hf, hc, ho⟩ := h5.setTold hi v
  exact ⟨b, hp, hf, hc, h1.setCell (p := ⟨b, i, none⟩) (by show w0.heap.size ≤ b; omega) _, h2.other (p := ⟨b, i, none⟩) (by show _ ≠ b; omega) _, h3.other (p := ⟨b, i, none⟩) (fun e => h7.1 _ hp e.symm) _, h4.other (p := ⟨b, i, none⟩) (fun e => h6.1 _ hp e.symm) _, ho, h6, h7, h8, h9, h10, h11⟩
/-- the result: what the box holds, copied into the result's box -/
theorem OutA.done {w0 w : World} {B g h : Nat} {rc : Array Value} {p : Al} {y : Au} (H : OutA w0 B g h rc p y w) (hs : y.told.length ≤ 1000000 ∧ y.use.length ≤ 1000000 ∧ y.inc.length ≤ 1000000) :
    Whole (au6 w (w0.heap.size + 1 + 1 + 1) y p) (w0.heap.size + 1 + 1 + 1) 33 (auCells y (.slice p.a1 p.m1 p.c1) (.slice p.a2 p.m2 p.c2) (.slice p.a3 p.m3 p.c3)) ∧
    AuIn (au6 w (w0.heap.size + 1 + 1 + 1) y p) p y ∧ Below w0.heap.size w0 (au6 w (w0.heap.size + 1 + 1 + 1) y p) ∧ ∀ g', (g' < w0.heap.size ∨ (au6 w (w0.heap.size + 1 + 1 + 1) y p).heap.size ≤ g') → OffAl g' p := by
  obtain ⟨h1, h2, h3, h4, h5, h6, h7, h8, h9, h10, h11⟩ := H
  have hO := h5.six h9 y p
  exact ⟨au6_whole h2, hO.in hs, au6_below h1 (by omega), fun g' hg => hO.off (hg.imp (fun h => by omega) id)⟩
/-- four boxes behind what was there: a config, an audit, a message, a result -/
def KeptT (w : World) (c : Cf) (x : Au) (p : Al) (m : Ml) (rv ev : Value) (wx : World) : Prop :=
  KeptA w w.heap.size c x p wx ∧ Whole wx (w.heap.size + 1 + 1) 40 (mlCells m rv ev) ∧ Whole wx (w.heap.size + 1 + 1 + 1) 33 (auCells au0 (.slice none 0 0) (.slice none 0 0) (.slice none 0 0))
theorem KeptT.later {w : World} {c : Cf} {x : Au} {p : Al} {m : Ml} {rv ev : Value} {wx wy : World} (h : KeptT w c x p m rv ev wx) (hb : Below wx.heap.size wx wy) : KeptT w c x p m rv ev wy := ⟨h.1.later hb, h.2.1.later hb h.2.1.lt, h.2.2.later hb h.2.2.lt⟩
theorem keptT_made (w : World) (c : Cf) (x : Au) (p : Al) (m : Ml) (rv ev : Value) : KeptT w c x p m rv ev ((((w.alloc (.cells (cfCells c) 23)).alloc (.cells (auCells x (.slice p.a1 p.m1 p.c1) (.slice p.a2 p.m2 p.c2) (.slice p.a3 p.m3 p.c3)) 33)).alloc (.cells (mlCells m rv ev) 40)).alloc (.cells (auCells au0 (.slice none 0 0) (.slice none 0 0) (.slice none 0 0)) 33)) := by
  refine ⟨⟨?_, (((Whole.made w _ _).alloc _).alloc _).alloc _, ((Whole.made2 w _ _ _).alloc _).alloc _⟩, ?_, ?_⟩
  · exact ((below_two w _ _).alloc (by simp; omega) _).alloc (by simp; omega) _
  · exact (Whole.madeAt _ _ _ _ (by simp)).alloc _
  · exact Whole.madeAt _ _ _ _ (by simp)
end Go.Proofs.Ytgonboccklpoaaa
