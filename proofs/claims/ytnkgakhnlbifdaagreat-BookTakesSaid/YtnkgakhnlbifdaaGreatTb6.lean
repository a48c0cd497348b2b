/- Parts, as far as BookTakesCards reaches them, of: HeldBooks, BookTook, RefRightsShort, RefBookShort, RefBookSmall, Each, EachFar. No law is proved here. -/
import Derived.Test.YtnkgakhnlbifdaaGreatTb1
import Derived.Test.YtnkgakhnlbifdaaGreatTb5
import Derived.Test.YtnkgakhnlbifdaaGreatTbQ
import Derived.WalkKit
import Derived.ProofKit
import Derived.OpenShut
import Derived.WalkSpells
import Derived.Laws.AppendOwn
import Derived.Laws.AppendOwnNone
import Derived.Laws.OwnMore
import Derived.Lib.Hide
import Derived.Deep.Draws
import Derived.Deep.Slices
import Derived.Deep.Fields
import Derived.ChangeSame
import Derived.RegionTactic
import Derived.Maps.AppendAt
import Derived.Lib.SmallJoins
import Derived.RangeFuncNested
import Derived.RangeFuncBound
import Derived.RangeFuncLeaves
import Derived.RangeFuncBox
import Derived.Laws.MakeOwn
import Derived.Deep.QuietTactic
import Derived.BigQuiet
import Derived.LoopTactic
import Derived.WalkSmall
import Derived.Deep.RegionHeld3
import Derived.Test.YtnkgakhnlbifdaaGreatTb2
import Derived.IntWalk
import Derived.Orders
namespace Go.Proofs.YtnkgakhnlbifdaaGreat
open Go.RowKit
def NumsAt (w : World) (b off : Nat) (l : List Int) : Prop := b < w.heap.size ∧ l.length ≤ 9223372036854775807 ∧ ∀ i, i < l.length → w.cell? ⟨b, off + i, none⟩ = some (.int .i64 (l[i]?.getD 0))
theorem NumsAt.nums {w : World} {b off : Nat} {l : List Int} (h : NumsAt w b off l) {C : Nat} (hC : l.length ≤ C) : Nums w (.slice (some ⟨b, off, none⟩) l.length C) l := by
 refine ⟨h.2.1, Or.inr ⟨b, off, C, rfl, hC, fun i j hi hj => ?_⟩⟩
 obtain rfl : j = 0 := by omega
 rw [Nat.mul_one, Nat.add_zero]
 exact h.2.2 i hi
theorem NumsAt.block {w w' : World} {b off : Nat} {l : List Int} (h : NumsAt w b off l) (hs : w.heap.size ≤ w'.heap.size) (hb : w'.heap[b]? = w.heap[b]?) : NumsAt w' b off l :=
 ⟨by have := h.1; omega, h.2.1, fun i hi => by rw [World.cell?_of_block (a := ⟨b, off + i, none⟩) hb]; exact h.2.2 i hi⟩
theorem NumsAt.later {w w' : World} {b off : Nat} {l : List Int} (h : NumsAt w b off l) (hb : Below w.heap.size w w') : NumsAt w' b off l := h.block hb.size (hb.block b h.1)
def HeldG (w : World) (base : Nat) (v : Value) (l : List Rw) (g : Nat → Value) : Prop :=
 w.ownsRow base 109 3 v l.length (flatCells 3 l.length (rowCell l g)) ∧
  ∀ k, k < l.length → ∃ b off C, g k = .slice (some ⟨b, off, none⟩) (at_ l k).out.length C ∧ (at_ l k).out.length ≤ C ∧ v.ownBlock ≠ some b ∧ base ≤ b ∧ NumsAt w b off (at_ l k).out
def HeldBooks (w : World) (base : Nat) (v : Value) (l : List Rw) : Prop := ∃ g, HeldG w base v l g
theorem HeldG.later {w w' : World} {base : Nat} {v : Value} {l : List Rw} {g : Nat → Value} (h : HeldG w base v l g) (hb : Below w.heap.size w w') : HeldG w' base v l g :=
 ⟨own_later h.1 hb, fun k hk => by obtain ⟨b, off, C, e, hC, hne, hB, hN⟩ := h.2 k hk; exact ⟨b, off, C, e, hC, hne, hB, hN.later hb⟩⟩
theorem HeldBooks.later {w w' : World} {base : Nat} {v : Value} {l : List Rw} (h : HeldBooks w base v l) (hb : Below w.heap.size w w') : HeldBooks w' base v l := ⟨_, h.choose_spec.later hb⟩
theorem heldBooks_nil (w : World) (base : Nat) : HeldBooks w base (.slice none 0 0) [] := ⟨fun _ => .bool false, World.ownsRow_nil _ _ _ _, fun k hk => absurd hk (by simp)⟩
theorem HeldBooks.books {w : World} {base : Nat} {v : Value} {l : List Rw} (h : HeldBooks w base v l) (hb : l.length ≤ 9223372036854775807) : ∃ A C, v = .slice A l.length C ∧ Books w (.slice A l.length C) l := by
 obtain ⟨g, h1, h2⟩ := h
 obtain ⟨A, C, rfl, _, hE⟩ := elems_of_own h1 hb
 refine ⟨A, C, rfl, g, hE, fun k hk => ?_⟩
 obtain ⟨b, off, C', e, hC, _, _, hN⟩ := h2 k hk
 exact ⟨_, _, e, by rw [e]; exact hN.nums hC⟩
def BooksFar (B : Nat) (w : World) (v : Value) (l : List Rw) : Prop := Books w v l ∧ ∀ W : World, w.heap.size ≤ W.heap.size → (∀ g, B ≤ g → g < w.heap.size → W.heap[g]? = w.heap[g]?) → Books W v l
theorem BooksFar.later {B : Nat} {w w' : World} {v : Value} {l : List Rw} (h : BooksFar B w v l) (hb : Below w.heap.size w w') : BooksFar B w' v l :=
 ⟨h.1.later hb, fun W hs hg => h.2 W (Nat.le_trans hb.size hs) fun g h1 h2 => (hg g h1 (Nat.lt_of_lt_of_le h2 hb.size)).trans (hb.block g h2)⟩
theorem BooksFar.other {B : Nat} {w : World} {v : Value} {l : List Rw} (h : BooksFar B w v l) {p : Addr} (hp : p.block < B) (u : Value) : BooksFar B (w.setCell p u) v l := by
 have e : ∀ g, B ≤ g → (w.setCell p u).heap[g]? = w.heap[g]? := fun g hg => Below.heap_setCell w p u g (by omega)
 have hs : (w.setCell p u).heap.size = w.heap.size := by simp
 refine ⟨h.2 _ (by rw [hs]; exact Nat.le_refl _) fun g h1 _ => e g h1, fun W h1 h2 => h.2 W (by rw [← hs]; exact h1) fun g h3 h4 => (h2 g h3 (by rw [hs]; exact h4)).trans (e g h3)⟩
theorem HeldBooks.far {w : World} {base : Nat} {v : Value} {l : List Rw} (h : HeldBooks w base v l) (hb : l.length ≤ 9223372036854775807) : ∃ A C, v = .slice A l.length C ∧ BooksFar base w (.slice A l.length C) l := by
 obtain ⟨A, C, rfl, hB⟩ := h.books hb
 refine ⟨A, C, rfl, hB, fun W hs hg => ?_⟩
 obtain ⟨g, h1, h2⟩ := h
 have hrow : W.ownsRow base 109 3 (.slice A l.length C) l.length (flatCells 3 l.length (rowCell l g)) := by
  refine ⟨h1.1, ?_⟩
  rcases h1.2 with hn | ⟨gb, cap, cur, e, h3, h4, h5⟩
  · exact Or.inl hn
  · exact Or.inr ⟨gb, cap, cur, e, h3, (hg gb h3 (Array.getElem?_eq_some_iff.1 h4).1).trans h4, h5⟩
 obtain ⟨A', C', e, _, hE⟩ := elems_of_own hrow hb
 simp only [Value.slice.injEq, true_and] at e
 obtain ⟨rfl, rfl⟩ := e
 refine ⟨g, hE, fun k hk => ?_⟩
 obtain ⟨b, off, C', e, hC, _, hbb, hN⟩ := h2 k hk
 exact ⟨_, _, e, by rw [e]; exact (hN.block hs (hg b hbb hN.1)).nums hC⟩
theorem held_push {w0 w1 w2 : World} {base : Nat} {v v' u : Value} {l : List Rw} {r : Rw} {g : Nat → Value} (h : HeldG w0 base v l g) (hb : Below w0.heap.size w0 w1)
 (hu : ∃ b off C, u = .slice (some ⟨b, off, none⟩) r.out.length C ∧ r.out.length ≤ C ∧ w0.heap.size ≤ b ∧ NumsAt w1 b off r.out)
 (hv : w2.ownsRow base 109 3 v' (l.length + 1) (flatCells 3 (l.length + 1) (fun i j => if i < l.length then rowCell l g i j else if j = 0 then .int .i64 r.inc else if j = 1 then .int .i64 r.use else u)))
 (hG : Grew w1 w2 v v') (hbs : base ≤ w0.heap.size) : HeldBooks w2 base v' (l ++ [r]) := by
 obtain ⟨h1, h2⟩ := h
 have hne2 : ∀ b, b < w1.heap.size → v.ownBlock ≠ some b → v'.ownBlock ≠ some b := fun b hb' hne e => by
  rcases hG.2 with h3 | h3
  · exact hne (h3.symm.trans e)
  · rw [h3] at e
    injection e with e
    omega
 refine ⟨fun i => if i < l.length then g i else u, ?_, fun k hk => ?_⟩
 · rw [List.length_append, List.length_singleton]
   have e : flatCells 3 (l.length + 1) (rowCell (l ++ [r]) (fun i => if i < l.length then g i else u)) = flatCells 3 (l.length + 1) (fun i j => if i < l.length then rowCell l g i j else if j = 0 then .int .i64 r.inc else if j = 1 then .int .i64 r.use else u) := by
    unfold flatCells
    rw [List.flatMap_def, List.flatMap_def]
    congr 1
    apply List.map_congr_left
    intro i hi
    apply List.map_congr_left
    intro j _
    by_cases hil : i < l.length
    · unfold rowCell
      rw [at_append_lt hil]
      simp only [if_pos hil]
    · have : i = l.length := by have := List.mem_range.1 hi; omega
      subst this
      unfold rowCell
      rw [at_append_eq]
      simp only [Nat.lt_irrefl, if_false]
   rw [e]; exact hv
 · rw [List.length_append, List.length_singleton] at hk
   by_cases hkl : k < l.length
   · obtain ⟨b, off, C, e, hC, hne, hB, hN⟩ := h2 k hkl
     rw [at_append_lt hkl]
     simp only [if_pos hkl]
     have hlt : b < w1.heap.size := Nat.lt_of_lt_of_le hN.1 hb.size
     exact ⟨b, off, C, e, hC, hne2 b hlt hne, hB, (hN.later hb).block hG.1.size (hG.1.block b hlt (fun e => hne e.symm))⟩
   · have : k = l.length := by omega
     subst this
     rw [at_append_eq]
     simp only [Nat.lt_irrefl, if_false]
     obtain ⟨b, off, C, e, hC, hge, hN⟩ := hu
     have hne : v.ownBlock ≠ some b := fun e => by have := (h1.lt b e).2; omega
     exact ⟨b, off, C, e, hC, hne2 b hN.1 hne, Nat.le_trans hbs hge, hN.block hG.1.size (hG.1.block b hN.1 (fun e => hne e.symm))⟩
end Go.Proofs.YtnkgakhnlbifdaaGreat
namespace Go.Proofs.YtnkgakhnlbifdaaGreat
open Go.RowKit
abbrev nilV : Value := .slice none 0 0
def KeptT (w : World) (c : Cf) (wk : World) : Prop :=
 Below w.heap.size w wk ∧ Whole wk w.heap.size 23 (cfCells c) ∧ Whole wk (w.heap.size + 1) 37 (bkCells bk0 nilV nilV nilV nilV nilV nilV nilV) ∧ Whole wk (w.heap.size + 1 + 1) 37 (bkCells bk0 nilV nilV nilV nilV nilV nilV nilV)
theorem KeptT.made (w : World) (c : Cf) : KeptT w c (((w.alloc (.cells (cfCells c) 23)).alloc (.cells (bkCells bk0 nilV nilV nilV nilV nilV nilV nilV) 37)).alloc (.cells (bkCells bk0 nilV nilV nilV nilV nilV nilV nilV) 37)) :=
 ⟨(below_two w _ _).alloc (by simp; omega) _, ((Whole.made w _ _).alloc _).alloc _, (Whole.made2 w _ _ _).alloc _, Whole.madeAt _ _ _ _ (by simp)⟩
theorem KeptT.later {w : World} {c : Cf} {wk wl : World} (h : KeptT w c wk) (hb : Below wk.heap.size wk wl) : KeptT w c wl := ⟨held_next h.1 hb, h.2.1.later hb h.2.1.lt, h.2.2.1.later hb h.2.2.1.lt, h.2.2.2.later hb h.2.2.2.lt⟩
abbrev bl00 : Bl := ⟨none, 0, 0, none, 0, 0, none, 0, 0, none, 0, 0, ⟨none, 0, 0, none, 0, 0, none, 0, 0⟩⟩
theorem bk_none (w : World) : BkIn w bl00 bk0 :=
 ⟨⟨rfl, books_nil _ _ _ (fun _ => rfl)⟩, ⟨rfl, Line.nil _ _ _ (fun _ => rfl)⟩, ⟨rfl, Line.nil _ _ _ (fun _ => rfl)⟩, ⟨rfl, Notes.nil _ _ _ (fun _ => rfl)⟩,
   ⟨rfl, (elems_nil w none 0 1 _ (fun _ => rfl) : Bools w (.slice none 0 0) [])⟩, ⟨rfl, (elems_nil w none 0 1 _ (fun _ => rfl) : Nums w (.slice none 0 0) [])⟩, rfl, (elems_nil w none 0 1 _ (fun _ => rfl) : Nums w (.slice none 0 0) [])⟩
theorem took_none {w wk : World} (h : Below w.heap.size w wk) : TookK w none (.returned (.tuple #[.agg (bkCells bk0 nilV nilV nilV nilV nilV nilV nilV), .bool false])) (bk12 wk (w.heap.size + 1) bk0 nilV nilV nilV nilV nilV nilV nilV) :=
 ⟨bl00, rfl, bk_none _, bk12_below h (Nat.le_succ _)⟩
theorem some_one {zs rest : List Int} {hs : List Nat} (h : someN 1 zs = some (hs, rest)) : ∃ k, hs = [k] := by
 have h1 := (someN_some h).1
 match hs, h1 with
 | [k], _ => exact ⟨k, rfl⟩
theorem Bytes.butG {G : Nat} {w0 wr : World} {B : Option Addr} {n D : Nat} {zs : List Int} {x : Bk} {lv ov nv tv uv iv : Value} {a1 : Option Addr} {m1 c1 : Nat} (h : Bytes w0 (.slice B n D) zs) (k : ButG G w0 wr)
 (hX : Whole w0 G 37 (bkCells x (.slice a1 m1 c1) lv ov nv tv uv iv)) (hl : ∀ v, v = lv ∨ v = ov ∨ v = nv ∨ v = tv ∨ v = uv ∨ v = iv → ∃ p m c, v = .slice p m c) : Bytes wr (.slice B n D) zs := by
 obtain ⟨h1, h2, h3⟩ := h
 refine ⟨h1, h2, ?_⟩
 rcases h3 with ⟨a, cap, e, h4, h5⟩ | ⟨b, off, cap, e, hc⟩
 · exact Or.inl ⟨a, cap, e, h4, h5⟩
 · refine Or.inr ⟨b, off, cap, e, fun j hj => k.cell_of (hc j hj) fun e2 => ?_⟩
   have h6 := hc j hj
   simp only at e2
   subst e2
   rw [hX.cell] at h6
   have h7 : off + j < 12 := by
    have := (Array.getElem?_eq_some_iff.1 h6).1
    simpa using this
   obtain ⟨p1, m1, q1, rfl⟩ := hl lv (Or.inl rfl)
   obtain ⟨p2, m2, q2, rfl⟩ := hl ov (Or.inr (Or.inl rfl))
   obtain ⟨p3, m3, q3, rfl⟩ := hl nv (Or.inr (Or.inr (Or.inl rfl)))
   obtain ⟨p4, m4, q4, rfl⟩ := hl tv (Or.inr (Or.inr (Or.inr (Or.inl rfl))))
   obtain ⟨p5, m5, q5, rfl⟩ := hl uv (Or.inr (Or.inr (Or.inr (Or.inr (Or.inl rfl)))))
   obtain ⟨p6, m6, q6, rfl⟩ := hl iv (Or.inr (Or.inr (Or.inr (Or.inr (Or.inr rfl)))))
   generalize off + j = t at h6 h7
   match t, h7 with
   | 0, _ => cases h6
   | 1, _ => cases h6
   | 2, _ => cases h6
   | 3, _ => cases h6
   | 4, _ => cases h6
   | 5, _ => cases h6
   | 6, _ => cases h6
   | 7, _ => cases h6
   | 8, _ => cases h6
   | 9, _ => cases h6
   | 10, _ => cases h6
   | 11, _ => cases h6
theorem pairs_len {who : Int} {ls : List Nat} {L : Nat} (h : ls.length = L * 2) : (mkPairs who ls).length = L := by
 unfold mkPairs
 rw [List.length_map, List.length_range]
 omega
theorem pairs_at {who : Int} {ls : List Nat} {L : Nat} (h : ls.length = L * 2) : ∀ i, i < L → rqAt (mkPairs who ls) i = ⟨((ls[2 * i]?.getD 0 : Nat) : Int), who, ((ls[2 * i + 1]?.getD 0 : Nat) : Int)⟩ := fun i hi => by
 unfold mkPairs rqAt
 rw [List.getElem?_map, List.getElem?_range (by omega)]
 rfl
theorem mknotes_len (ts : List Nat) (N : Nat) : (mkNotes ts N).length = N := by unfold mkNotes; rw [List.length_map, List.length_range]
theorem mknotes_at (ts : List Nat) {N : Nat} : ∀ i, i < N → ntAt (mkNotes ts N) i = mkNote ts i := fun i hi => by
 unfold mkNotes ntAt
 rw [List.getElem?_map, List.getElem?_range hi]
 rfl
theorem own_split {w : World} {base : Nat} {e : TypeId} {s n : Nat} {v : Value} {f : Nat → Nat → Value} (h : w.ownsRow base e s v n (flatCells s n f)) (hn : n ≤ 1000) : ∃ A C, v = .slice A n C ∧ Elems w (.slice A n C) s n f ∧ ∀ ad, A = some ad → base ≤ ad.block := by
 obtain ⟨A, C, hv, _, he⟩ := elems_of_own h (by omega)
 refine ⟨A, C, hv, he, fun ad had => ?_⟩
 subst hv
 subst had
 rcases h.2 with ⟨h0, _⟩ | ⟨g, cap, cur, e2, hb, _⟩
 · exact absurd h0 (by simp)
 · simp only [Value.slice.injEq, Option.some.injEq] at e2
   rw [e2.1]
   exact hb
abbrev bkX (clk asks t p : Int) (mv : Bool) : Bk := ⟨clk, [], [], [], asks, [], ⟨t, p, [], [], [], mv⟩⟩
theorem bk_set4 {w : World} {g : Nat} {clk asks t p z : Int} {mv : Bool} {rv lv ov nv tv uv iv : Value} (h : Whole w g 37 (bkCells (bkX clk asks t p mv) rv lv ov nv tv uv iv)) : Whole (w.setCell ⟨g, 4, none⟩ (.int .i64 z)) g 37 (bkCells (bkX clk z t p mv) rv lv ov nv tv uv iv) := by
 have h2 := h.set 4 (.int .i64 z)
 simpa only [bkCells, qA, qB, qC] using h2
theorem bk_set67 {w : World} {g : Nat} {clk asks t p y z : Int} {mv : Bool} {rv lv ov nv tv uv iv : Value} (h : Whole w g 37 (bkCells (bkX clk asks t p mv) rv lv ov nv tv uv iv)) : Whole ((w.setCell ⟨g, 6, none⟩ (.int .i64 y)).setCell ⟨g, 7, none⟩ (.int .i64 z)) g 37 (bkCells (bkX clk asks y z mv) rv lv ov nv tv uv iv) := by
 have h2 := (h.set 6 (.int .i64 y)).set 7 (.int .i64 z)
 simpa only [bkCells, qA, qB, qC] using h2
theorem bk_set11 {w : World} {g : Nat} {clk asks t p : Int} {mv b : Bool} {rv lv ov nv tv uv iv : Value} (h : Whole w g 37 (bkCells (bkX clk asks t p mv) rv lv ov nv tv uv iv)) : Whole (w.setCell ⟨g, 11, none⟩ (.bool b)) g 37 (bkCells (bkX clk asks t p b) rv lv ov nv tv uv iv) := by
 have h2 := h.set 11 (.bool b)
 simpa only [bkCells, qA, qB, qC] using h2
def FarK (g : Nat) (p : Bl) : Prop :=
 (∀ ad, p.a2 = some ad → ad.block ≠ g) ∧ (∀ ad, p.a3 = some ad → ad.block ≠ g) ∧ (∀ ad, p.a4 = some ad → ad.block ≠ g) ∧ (∀ ad, p.al.a1 = some ad → ad.block ≠ g) ∧ (∀ ad, p.al.a2 = some ad → ad.block ≠ g) ∧ (∀ ad, p.al.a3 = some ad → ad.block ≠ g)
theorem bk12_elems' {wx : World} {g sz n c m : Nat} {A : Option Addr} {f : Nat → Nat → Value} {x : Bk} {rv lv ov nv tv uv iv : Value} (h : Elems wx (.slice A n c) sz m f) (hn : n = m) (hg : ∀ ad, A = some ad → ad.block ≠ g) : Elems (bk12 wx g x rv lv ov nv tv uv iv) (.slice A n c) sz m f := by
 subst hn
 exact bk12_elems h hg
theorem bk12_far {B : Nat} {wx : World} {g : Nat} {v : Value} {l : List Rw} {x : Bk} {rv lv ov nv tv uv iv : Value} (h : BooksFar B wx v l) (hg : g < B) : BooksFar B (bk12 wx g x rv lv ov nv tv uv iv) v l :=
 (((((((((((h.other (p := ⟨g, 0, none⟩) hg _).other (p := ⟨g, 1, none⟩) hg _).other (p := ⟨g, 2, none⟩) hg _).other (p := ⟨g, 3, none⟩) hg _).other (p := ⟨g, 4, none⟩) hg _).other (p := ⟨g, 5, none⟩) hg _).other (p := ⟨g, 6, none⟩) hg _).other (p := ⟨g, 7, none⟩) hg _).other (p := ⟨g, 8, none⟩) hg _).other (p := ⟨g, 9, none⟩) hg _).other (p := ⟨g, 10, none⟩) hg _).other (p := ⟨g, 11, none⟩) hg _
theorem bk12_in {B g : Nat} {wk : World} {x y : Bk} {p : Bl} {rv lv ov nv tv uv iv : Value} (h : BkIn wk p y) (hf : BooksFar B wk (.slice p.a1 p.m1 p.c1) y.rows) (hg : g < B) (hF : FarK g p) : BkIn (bk12 wk g x rv lv ov nv tv uv iv) p y := by
 obtain ⟨⟨m1, _⟩, ⟨m2, h2⟩, ⟨m3, h3⟩, ⟨m4, h4⟩, ⟨m5, h5⟩, ⟨m6, h6⟩, m7, h7⟩ := h
 obtain ⟨f2, f3, f4, f5, f6, f7⟩ := hF
 exact ⟨⟨m1, (bk12_far hf hg).1⟩, ⟨m2, bk12_elems' h2 m2 f2⟩, ⟨m3, bk12_elems' h3 m3 f3⟩, ⟨m4, bk12_elems' h4 m4 f4⟩, ⟨m5, bk12_elems' h5 m5 f5⟩, ⟨m6, bk12_elems' h6 m6 f6⟩, m7, bk12_elems' h7 m7 f7⟩
theorem took_some {w wk : World} {x : Bk} {p : Bl} (h : Below w.heap.size w wk) {B : Nat} (hin : BkIn wk p x) (hf : BooksFar B wk (.slice p.a1 p.m1 p.c1) x.rows) (hg : w.heap.size + 1 < B) (hF : FarK (w.heap.size + 1) p) (rv lv ov nv tv uv iv : Value) : TookK w (some x) (.returned (.tuple #[bkAt x p, .bool true])) (bk12 wk (w.heap.size + 1) x rv lv ov nv tv uv iv) :=
 ⟨p, rfl, bk12_in hin hf hg hF, bk12_below h (Nat.le_succ _)⟩
theorem elems_congr {w : World} {A : Option Addr} {n c sz m : Nat} {f g : Nat → Nat → Value} (h : Elems w (.slice A n c) sz m f) (hf : ∀ i j, i < m → j < sz → f i j = g i j) : Elems w (.slice A n c) sz m g := by
 obtain ⟨h1, h2⟩ := h
 refine ⟨h1, ?_⟩
 rcases h2 with h2 | ⟨b, off, cap, hv, hn, hc⟩
 · exact Or.inl h2
 · exact Or.inr ⟨b, off, cap, hv, hn, fun i j hi hj => by rw [← hf i j hi hj]; exact hc i j hi hj⟩
theorem range_len {α : Type} (F : Nat → α) (N : Nat) : ((List.range N).map F).length = N := by rw [List.length_map, List.length_range]
theorem range_at {α : Type} (F : Nat → α) {N i : Nat} (h : i < N) (z : α) : ((List.range N).map F)[i]?.getD z = F i := by
 rw [List.getElem?_map, List.getElem?_range h]; rfl
theorem bools_of {w : World} {A : Option Addr} {n c N : Nat} {F : Nat → Bool} (h : Elems w (.slice A n c) 1 N (fun i _ => .bool (F i))) : Bools w (.slice A n c) ((List.range N).map F) := by
 unfold Bools
 rw [range_len]
 exact elems_congr h fun i j hi _ => by rw [range_at F hi]
theorem nums_of {w : World} {A : Option Addr} {n c N : Nat} {F : Nat → Int} (h : Elems w (.slice A n c) 1 N (fun i _ => .int .i64 (F i))) : Nums w (.slice A n c) ((List.range N).map F) := by
 unfold Nums
 rw [range_len]
 exact elems_congr h fun i j hi _ => by rw [range_at F hi]
end Go.Proofs.YtnkgakhnlbifdaaGreat
namespace Go.Proofs.YtnkgakhnlbifdaaGreat
open Go.RowKit
theorem refkflag_calls (v : Int) (w : World) : Calls Tryz.prog 25 #[.int .i64 v] w (fun e w' => e = .returned (.bool (decide (v = 0 ∨ v = 1))) ∧ w' = w) := by
 by_cases h0 : v = 0
 · subst h0
   go_enter Tryz.func25, Tryz.ntmps25
   go_wp2_with fail
   go_ret
   exact ⟨by rfl, rfl⟩
 · by_cases h1 : v = 1
   · subst h1
     go_enter Tryz.func25, Tryz.ntmps25
     go_wp2_with fail
     go_ret
     exact ⟨by rfl, rfl⟩
   · have e0 : (v == 0) = false := beq_eq_false_iff_ne.2 h0
     have e1 : (v == 1) = false := beq_eq_false_iff_ne.2 h1
     rw [decide_eq_false (by omega : ¬ (v = 0 ∨ v = 1))]
     clear h0 h1
     go_enter Tryz.func25, Tryz.ntmps25
     go_wp2_with fail
     go_ret
     exact ⟨by simp, rfl⟩
end Go.Proofs.YtnkgakhnlbifdaaGreat
namespace Go.Proofs.YtnkgakhnlbifdaaGreat
open Go
section
variable {P : Program} {ops : Array Oper} {Q : Exit → Act → World → Prop}
def backward (ops : Array Oper) : Bool := (List.range ops.size).all fun i => match ops[i]? with
 | some o => o.after.all fun e => !Region.binds .any e || decide (e.on < i)
 | none => true
def waitsFor (ops : Array Oper) (i : Nat) : List Nat := match ops[i]? with
 | some o => (o.after.toList.filter (Region.binds .any)).map (·.on)
 | none => []
def oneMore (d : Nat → Bool) (i : Nat) : Nat → Bool := fun k => k == i || d k
theorem oneMore_same (d : Nat → Bool) (i : Nat) : oneMore d i i = true := by simp [oneMore]
theorem oneMore_other {d : Nat → Bool} {i k : Nat} (h : k ≠ i) : oneMore d i k = d k := by simp [oneMore, h]
def still (n : Nat) (d : Nat → Bool) : Nat := ((List.range n).filter fun k => !d k).length
theorem still_more {n : Nat} {d : Nat → Bool} {i : Nat} (hi : i < n) (hd : d i = false) : still n (oneMore d i) < still n d := by
 unfold still
 induction n with
 | zero => omega
 | succ n ih =>
   rw [List.range_succ, List.filter_append, List.filter_append, List.length_append, List.length_append]
   by_cases h : i = n
   · subst h
     have e1 : (List.range i).filter (fun k => !oneMore d i k) = (List.range i).filter (fun k => !d k) := by
      apply List.filter_congr
      intro k hk
      rw [oneMore_other (by have := List.mem_range.1 hk; omega)]
     rw [e1]
     simp [oneMore_same, hd]
   · have := ih (by omega)
     have e2 : [n].filter (fun k => !oneMore d i k) = [n].filter (fun k => !d k) := by
      apply List.filter_congr
      intro k hk
      rw [oneMore_other (by have := List.mem_singleton.1 hk; omega)]
     rw [e2]
     omega
theorem wpAny_each (hb : backward ops = true) (J : (Nat → Bool) → Act → World → Prop)
 (hstep : ∀ (i : Nat) (d : Nat → Bool) (a : Act) (w : World), i < ops.size → J d a w → d i = false → (∀ k ∈ waitsFor ops i, d k = true) → wpOp P ops Q i (fun a' w' => J (oneMore d i) a' w') a w)
 (hend : ∀ (d : Nat → Bool) (a : Act) (w : World), J d a w → (∀ i, i < ops.size → d i = true) → Q .normal a w) :
 ∀ (fuel : Nat) (listed : Array Bool) (d : Nat → Bool) (a : Act) (w : World), listed.size = ops.size → (∀ i, i < ops.size → listed[i]? = some (d i)) → still ops.size d ≤ fuel → J d a w → wpAny P .any ops Q fuel listed a w := by
 intro fuel
 induction fuel with
 | zero =>
   intro listed d a w hs hl hf hJ
   have hall : ∀ i, i < ops.size → d i = true := by
    intro i hi
    cases h : d i with
    | true => rfl
    | false =>
      have hlen : 0 < ((List.range ops.size).filter fun k => !d k).length := List.length_pos_of_mem (a := i) (List.mem_filter.2 ⟨List.mem_range.2 hi, by simp [h]⟩)
      unfold still at hf
      omega
   refine ⟨?_, hend d a w hJ hall⟩
   by_cases hr : Region.ready .any ops listed = []
   · exact hr
   · obtain ⟨j, hj⟩ := List.exists_mem_of_ne_nil _ hr
     obtain ⟨h1, o, ho, _⟩ := mem_ready.1 hj
     have hjs : j < ops.size := (Array.getElem?_eq_some_iff.1 ho).1
     rw [Array.getD_eq_getD_getElem?, hl j hjs, hall j hjs] at h1
     simp at h1
 | succ fuel ih =>
   intro listed d a w hs hl hf hJ
   refine ⟨fun hr => hend d a w hJ ?_, fun i hi => ?_⟩
   · intro i
     induction i using Nat.strongRecOn with
     | ind i ihi =>
       intro hi
       cases h : d i with
       | true => rfl
       | false =>
         have : i ∈ Region.ready .any ops listed := by
          refine mem_ready.2 ⟨by rw [Array.getD_eq_getD_getElem?, hl i hi, h]; rfl, ops[i], Array.getElem?_eq_getElem hi, fun e he hbe => ?_⟩
          have hlt : e.on < i := by
           have h2 := List.all_eq_true.1 hb i (List.mem_range.2 hi)
           simp only [Array.getElem?_eq_getElem hi] at h2
           have h3 := Array.all_eq_true_iff_forall_mem.1 h2 e he
           rw [hbe, Bool.not_true, Bool.false_or] at h3
           exact of_decide_eq_true h3
          have := ihi e.on hlt (by omega)
          rw [Array.getD_eq_getD_getElem?, hl e.on (by omega), this]; rfl
         rw [hr] at this
         cases this
   · obtain ⟨h1, o, ho, hdep⟩ := mem_ready.1 hi
     have his : i < ops.size := (Array.getElem?_eq_some_iff.1 ho).1
     have hdi : d i = false := by
      rw [Array.getD_eq_getD_getElem?, hl i his] at h1
      simpa using h1
     refine wpOp_mono (fun a' w' hJ' => ih (listed.setIfInBounds i true) (oneMore d i) a' w' (by simpa using hs) ?_ ?_ hJ') (hstep i d a w his hJ hdi ?_)
     · intro k hk
       by_cases e : k = i
       · subst e
         rw [oneMore_same, Array.getElem?_setIfInBounds_self_of_lt (by omega)]
       · rw [oneMore_other e, Array.getElem?_setIfInBounds_ne (fun h => e h.symm)]
         exact hl k hk
     · have := still_more his hdi
       omega
     · intro k hk
       unfold waitsFor at hk
       rw [ho] at hk
       obtain ⟨e, he, rfl⟩ := List.mem_map.1 hk
       obtain ⟨he1, he2⟩ := List.mem_filter.1 he
       have h3 := hdep e (Array.mem_toList_iff.1 he1) he2
       have hes : e.on < ops.size := by
        have h2 := List.all_eq_true.1 hb i (List.mem_range.2 his)
        simp only [ho] at h2
        have h3 := Array.all_eq_true_iff_forall_mem.1 h2 e (Array.mem_toList_iff.1 he1)
        rw [he2, Bool.not_true, Bool.false_or] at h3
        have := of_decide_eq_true h3
        omega
       rw [Array.getD_eq_getD_getElem?, hl e.on hes] at h3
       simpa using h3
theorem wp_region_each {id : Nat} {a : Act} {w : World} (hm : P.follows .mixedOrders = true) (hb : backward ops = true) (J : (Nat → Bool) → Act → World → Prop) (h0 : J (fun _ => false) a w.drew)
 (hstep : ∀ (i : Nat) (d : Nat → Bool) (a : Act) (w : World), i < ops.size → J d a w → d i = false → (∀ k ∈ waitsFor ops i, d k = true) → wpOp P ops Q i (fun a' w' => J (oneMore d i) a' w') a w)
 (hend : ∀ (d : Nat → Bool) (a : Act) (w : World), J d a w → (∀ i, i < ops.size → d i = true) → Q .normal a w) : (Code.region id ops true).wp P Q a w := by
 refine wp_region_any hm (wpAny_each hb J hstep hend ops.size _ (fun _ => false) a _ (by simp) (fun i hi => by simp [hi]) ?_ h0)
 exact Nat.le_trans (List.length_filter_le _ _) (by simp)
theorem wp_region_each_at {id : Nat} {a : Act} {w : World} (hm : P.follows .mixedOrders = true) (hb : backward ops = true) (J : Act → (Nat → Bool) → Act → World → Prop) (h0 : J a (fun _ => false) a w.drew)
 (hstep : ∀ (i : Nat) (d : Nat → Bool) (a' : Act) (w' : World), i < ops.size → J a d a' w' → d i = false → (∀ k ∈ waitsFor ops i, d k = true) → wpOp P ops Q i (fun a'' w'' => J a (oneMore d i) a'' w'') a' w')
 (hend : ∀ (d : Nat → Bool) (a' : Act) (w' : World), J a d a' w' → (∀ i, i < ops.size → d i = true) → Q .normal a' w') : (Code.region id ops true).wp P Q a w :=
 wp_region_each hm hb (J a) h0 hstep hend
theorem wpOp_at {i : Nat} {o : Oper} {rest : List Oper} {K : Act → World → Prop} {a : Act} {w : World} (ho : ops.toList.drop i = o :: rest)
 (h : ∀ K' : Act → World → Prop, (∀ a w, K a w → K' a w) → if Region.wanted o (yielded ops a.tmps) = true then Oper.wp P o a w K' Q else K' (a.put o.dst undef) w) : wpOp P ops Q i K a w := by
 refine wpOp_step (o := o) ?_ h
 have h1 : (ops.toList.drop i)[0]? = ops.toList[i]? := by rw [List.getElem?_drop, Nat.add_zero]
 rw [ho] at h1
 rw [← Array.getElem?_toList, ← h1]; rfl
def putAll (a : Act) : List (Nat × Value) → Act
 | [] => a
 | (k, v) :: l => putAll (a.put (some k) v) l
end
end Go.Proofs.YtnkgakhnlbifdaaGreat
namespace Go.Proofs.YtnkgakhnlbifdaaGreat
open Go.RowKit
theorem region_any {P : Program} {id : Nat} {ops : Array Oper} {b : Bool} {Q : Exit → Act → World → Prop} {a : Act} {w : World} (h : ∀ a0 : Act, Hid (a0 = a) → (Code.region id ops b).wp P Q a0 w) : (Code.region id ops b).wp P Q a w := h a rfl
def look : List (Nat × Value) → Nat → Value → Value
 | [], _, v => v
 | (k, u) :: l, t, v => look l t (if k = t then u else v)
theorem put_size (a : Act) (k : Nat) (v : Value) : (a.put (some k) v).tmps.size = a.tmps.size := by simp [Act.put]
theorem putAll_size : ∀ (L : List (Nat × Value)) (a : Act), (putAll a L).tmps.size = a.tmps.size
 | [], _ => rfl
 | (k, v) :: l, a => by
   show (putAll (a.put (some k) v) l).tmps.size = _
   rw [putAll_size l, put_size]
theorem put_read (a : Act) (k t : Nat) (v : Value) (h : t < a.tmps.size) : (a.put (some k) v).tmps.getD t undef = if k = t then v else a.tmps.getD t undef := by
 simp only [Act.put, Array.getD_eq_getD_getElem?, Array.getElem?_setIfInBounds]
 by_cases e : k = t
 · subst e; simp [h]
 · simp [e]
theorem putAll_read : ∀ (L : List (Nat × Value)) (a : Act) (t : Nat), t < a.tmps.size → (putAll a L).tmps.getD t undef = look L t (a.tmps.getD t undef)
 | [], _, _, _ => rfl
 | (k, v) :: l, a, t, h => by
   show (putAll (a.put (some k) v) l).tmps.getD t undef = look l t (if k = t then v else a.tmps.getD t undef)
   rw [putAll_read l _ t (by rw [put_size]; exact h), put_read a k t v h]
theorem putAll_defers : ∀ (L : List (Nat × Value)) (a : Act), (putAll a L).defers = a.defers
 | [], _ => rfl
 | (_, _) :: l, _ => putAll_defers l _
theorem act_ext {a b : Act} (hs : a.tmps.size = b.tmps.size) (hd : a.defers = b.defers) (h : ∀ t, t < a.tmps.size → a.tmps.getD t undef = b.tmps.getD t undef) : a = b := by
 obtain ⟨t1, d1⟩ := a
 obtain ⟨t2, d2⟩ := b
 simp only at hs hd h
 subst hd
 congr 1
 apply Array.ext hs
 intro i h1 h2
 have := h i h1
 simpa [Array.getD_eq_getD_getElem?, h1, h2] using this
theorem look_set : ∀ (L : List (Nat × Value)) (i s : Nat) (v d : Value) (t : Nat), (L.map Prod.fst)[i]? = some s → (L.map Prod.fst).Nodup → look (L.set i (s, v)) t d = if s = t then v else look L t d
 | [], i, s, v, d, t, h, _ => by simp at h
 | (k, u) :: l, 0, s, v, d, t, h, hn => by
   obtain rfl : k = s := by simpa using h
   have hk : k ∉ l.map Prod.fst := (List.nodup_cons.1 hn).1
   have key : ∀ (l : List (Nat × Value)) (a : Value), k ∉ l.map Prod.fst → k = t → look l t a = a := fun l => by
    induction l with
    | nil => intro a _ _; rfl
    | cons p l ih =>
      obtain ⟨q, w⟩ := p
      intro a hq hkt
      have h1 : q ≠ t := fun e => hq (by rw [e, ← hkt]; simp)
      show look l t (if q = t then w else a) = a
      rw [if_neg h1]
      exact ih a (fun hc => hq (by simp at hc ⊢; exact Or.inr hc)) hkt
   show look l t (if k = t then v else d) = if k = t then v else look l t (if k = t then u else d)
   by_cases e : k = t
   · rw [if_pos e, if_pos e]; exact key l v hk e
   · rw [if_neg e, if_neg e, if_neg e]
 | (k, u) :: l, i + 1, s, v, d, t, h, hn => by
   show look (l.set i (s, v)) t (if k = t then u else d) = _
   rw [look_set l i s v _ t (by simpa using h) (List.nodup_cons.1 hn).2]
   rfl
theorem put_upd {a : Act} {L : List (Nat × Value)} (i : Nat) {s : Nat} {v : Value} (h : (L.map Prod.fst)[i]? = some s) (hn : (L.map Prod.fst).Nodup) : (putAll a L).put (some s) v = putAll a (L.set i (s, v)) := by
 apply act_ext
 · rw [put_size, putAll_size, putAll_size]
 · rw [putAll_defers]; exact putAll_defers L a
 · intro t ht
   rw [put_size, putAll_size] at ht
   rw [put_read _ _ _ _ (by rw [putAll_size]; exact ht), putAll_read _ _ _ ht, putAll_read _ _ _ ht, look_set L i s v _ t h hn]
theorem look_same (a : Act) (t : Nat) : ∀ (ks : List Nat), look (ks.map fun k => (k, a.tmps.getD k undef)) t (a.tmps.getD t undef) = a.tmps.getD t undef
 | [] => rfl
 | k :: ks => by
   show look _ t (if k = t then a.tmps.getD k undef else a.tmps.getD t undef) = _
   have e : (if k = t then a.tmps.getD k undef else a.tmps.getD t undef) = a.tmps.getD t undef := by
    by_cases h : k = t
    · rw [if_pos h, h]
    · rw [if_neg h]
   rw [e]
   exact look_same a t ks
theorem putAll_same (a : Act) (ks : List Nat) : a = putAll a (ks.map fun k => (k, a.tmps.getD k undef)) := by
 apply act_ext
 · rw [putAll_size]
 · rw [putAll_defers]
 · intro t ht
   rw [putAll_read _ _ _ ht, look_same]
def slot (a : Act) (t : Nat) : Value := a.tmps.getD t undef
theorem far_read (a : Act) (L : List (Nat × Value)) (t : Nat) (h : t < a.tmps.size) : (putAll a L).tmps.getD t undef = look L t (slot a t) := putAll_read L a t h
theorem far_get (a : Act) (L : List (Nat × Value)) (t : Nat) (h : t < a.tmps.size) : (putAll a L).tmps[t]? = some (look L t (slot a t)) := by
 have h2 : t < (putAll a L).tmps.size := by rw [putAll_size]; exact h
 have h1 := far_read a L t h
 rw [Array.getD_eq_getD_getElem?, Array.getElem?_eq_getElem h2] at h1
 rw [Array.getElem?_eq_getElem h2]
 exact congrArg some h1
theorem look_not (t : Nat) (v : Value) : ∀ (L : List (Nat × Value)), (L.map Prod.fst).contains t = false → look L t v = v
 | [], _ => rfl
 | (k, u) :: l, h => by
   have h1 : k ≠ t := fun e => by subst e; simp at h
   show look l t (if k = t then u else v) = v
   rw [if_neg h1]
   exact look_not t v l (by simp at h ⊢; exact h.2)
theorem far_base (a : Act) (L : List (Nat × Value)) (t : Nat) {v : Value} (h : t < a.tmps.size) (hr : slot a t = v) (hn : (L.map Prod.fst).contains t = false) : (putAll a L).tmps[t]? = some v := by
 rw [far_get a L t h, look_not t _ L hn, hr]
end Go.Proofs.YtnkgakhnlbifdaaGreat
