/- Parts, as far as BookBackCards reaches them, of: HeldBooks, BookTook, RefRightsShort, RefBookShort, RefBookSmall, Each, EachFar, RefBookLoop1, RefBookLoop3, RefBookLoop4, RefBookLoop2, BookEnd, Bytes. No law is proved here. -/
import Derived.Test.YtnkgakhnlbifdaaGreatBa2
import Derived.Test.YtnkgakhnlbifdaaGreatBa7
import Derived.WalkKit
import Derived.ProofKit
import Derived.OpenShut
import Derived.WalkSpells
import Derived.Laws.AppendOwn
import Derived.Laws.AppendOwnNone
import Derived.Laws.OwnMore
import Derived.Lib.Hide
import Derived.Deep.Draws
import Derived.Deep.Slices
import Derived.Deep.Fields
import Derived.ChangeSame
import Derived.RegionTactic
import Derived.Maps.AppendAt
import Derived.Lib.SmallJoins
import Derived.RangeFuncNested
import Derived.RangeFuncBound
import Derived.RangeFuncLeaves
import Derived.RangeFuncBox
import Derived.Laws.MakeOwn
import Derived.Deep.QuietTactic
import Derived.BigQuiet
import Derived.LoopTactic
import Derived.WalkSmall
import Derived.Deep.RegionHeld3
import Derived.Test.YtnkgakhnlbifdaaGreatBa5
import Derived.IntWalk
import Derived.Orders
import Derived.Test.YtnkgakhnlbifdaaGreatBa1
import Derived.BigRegion
import Derived.Test.YtnkgakhnlbifdaaGreatBa0
import Derived.ArgAppend
import Derived.Laws.BytesArg
import Derived.Lib.AppendStr
import Derived.Lib.ConvBytes
namespace Go.Proofs.YtnkgakhnlbifdaaGreat
open Go.RowKit
def NumsAt (w : World) (b off : Nat) (l : List Int) : Prop := b < w.heap.size ∧ l.length ≤ 9223372036854775807 ∧ ∀ i, i < l.length → w.cell? ⟨b, off + i, none⟩ = some (.int .i64 (l[i]?.getD 0))
theorem NumsAt.nums {w : World} {b off : Nat} {l : List Int} (h : NumsAt w b off l) {C : Nat} (hC : l.length ≤ C) : Nums w (.slice (some ⟨b, off, none⟩) l.length C) l := by
 refine ⟨h.2.1, Or.inr ⟨b, off, C, rfl, hC, fun i j hi hj => ?_⟩⟩
 obtain rfl : j = 0 := by omega
 rw [Nat.mul_one, Nat.add_zero]
 exact h.2.2 i hi
theorem NumsAt.block {w w' : World} {b off : Nat} {l : List Int} (h : NumsAt w b off l) (hs : w.heap.size ≤ w'.heap.size) (hb : w'.heap[b]? = w.heap[b]?) : NumsAt w' b off l :=
 ⟨by have := h.1; omega, h.2.1, fun i hi => by rw [World.cell?_of_block (a := ⟨b, off + i, none⟩) hb]; exact h.2.2 i hi⟩
theorem NumsAt.later {w w' : World} {b off : Nat} {l : List Int} (h : NumsAt w b off l) (hb : Below w.heap.size w w') : NumsAt w' b off l := h.block hb.size (hb.block b h.1)
def HeldG (w : World) (base : Nat) (v : Value) (l : List Rw) (g : Nat → Value) : Prop :=
 w.ownsRow base 109 3 v l.length (flatCells 3 l.length (rowCell l g)) ∧
  ∀ k, k < l.length → ∃ b off C, g k = .slice (some ⟨b, off, none⟩) (at_ l k).out.length C ∧ (at_ l k).out.length ≤ C ∧ v.ownBlock ≠ some b ∧ base ≤ b ∧ NumsAt w b off (at_ l k).out
def HeldBooks (w : World) (base : Nat) (v : Value) (l : List Rw) : Prop := ∃ g, HeldG w base v l g
theorem HeldG.later {w w' : World} {base : Nat} {v : Value} {l : List Rw} {g : Nat → Value} (h : HeldG w base v l g) (hb : Below w.heap.size w w') : HeldG w' base v l g :=
 ⟨own_later h.1 hb, fun k hk => by obtain ⟨b, off, C, e, hC, hne, hB, hN⟩ := h.2 k hk; exact ⟨b, off, C, e, hC, hne, hB, hN.later hb⟩⟩
theorem HeldBooks.later {w w' : World} {base : Nat} {v : Value} {l : List Rw} (h : HeldBooks w base v l) (hb : Below w.heap.size w w') : HeldBooks w' base v l := ⟨_, h.choose_spec.later hb⟩
theorem heldBooks_nil (w : World) (base : Nat) : HeldBooks w base (.slice none 0 0) [] := ⟨fun _ => .bool false, World.ownsRow_nil _ _ _ _, fun k hk => absurd hk (by simp)⟩
theorem HeldBooks.books {w : World} {base : Nat} {v : Value} {l : List Rw} (h : HeldBooks w base v l) (hb : l.length ≤ 9223372036854775807) : ∃ A C, v = .slice A l.length C ∧ Books w (.slice A l.length C) l := by
 obtain ⟨g, h1, h2⟩ := h
 obtain ⟨A, C, rfl, _, hE⟩ := elems_of_own h1 hb
 refine ⟨A, C, rfl, g, hE, fun k hk => ?_⟩
 obtain ⟨b, off, C', e, hC, _, _, hN⟩ := h2 k hk
 exact ⟨_, _, e, by rw [e]; exact hN.nums hC⟩
def BooksFar (B : Nat) (w : World) (v : Value) (l : List Rw) : Prop := Books w v l ∧ ∀ W : World, w.heap.size ≤ W.heap.size → (∀ g, B ≤ g → g < w.heap.size → W.heap[g]? = w.heap[g]?) → Books W v l
theorem BooksFar.later {B : Nat} {w w' : World} {v : Value} {l : List Rw} (h : BooksFar B w v l) (hb : Below w.heap.size w w') : BooksFar B w' v l :=
 ⟨h.1.later hb, fun W hs hg => h.2 W (Nat.le_trans hb.size hs) fun g h1 h2 => (hg g h1 (Nat.lt_of_lt_of_le h2 hb.size)).trans (hb.block g h2)⟩
theorem BooksFar.other {B : Nat} {w : World} {v : Value} {l : List Rw} (h : BooksFar B w v l) {p : Addr} (hp : p.block < B) (u : Value) : BooksFar B (w.setCell p u) v l := by
 have e : ∀ g, B ≤ g → (w.setCell p u).heap[g]? = w.heap[g]? := fun g hg => Below.heap_setCell w p u g (by omega)
 have hs : (w.setCell p u).heap.size = w.heap.size := by simp
 refine ⟨h.2 _ (by rw [hs]; exact Nat.le_refl _) fun g h1 _ => e g h1, fun W h1 h2 => h.2 W (by rw [← hs]; exact h1) fun g h3 h4 => (h2 g h3 (by rw [hs]; exact h4)).trans (e g h3)⟩
theorem HeldBooks.far {w : World} {base : Nat} {v : Value} {l : List Rw} (h : HeldBooks w base v l) (hb : l.length ≤ 9223372036854775807) : ∃ A C, v = .slice A l.length C ∧ BooksFar base w (.slice A l.length C) l := by
 obtain ⟨A, C, rfl, hB⟩ := h.books hb
 refine ⟨A, C, rfl, hB, fun W hs hg => ?_⟩
 obtain ⟨g, h1, h2⟩ := h
 have hrow : W.ownsRow base 109 3 (.slice A l.length C) l.length (flatCells 3 l.length (rowCell l g)) := by
  refine ⟨h1.1, ?_⟩
  rcases h1.2 with hn | ⟨gb, cap, cur, e, h3, h4, h5⟩
  · exact Or.inl hn
  · exact Or.inr ⟨gb, cap, cur, e, h3, (hg gb h3 (Array.getElem?_eq_some_iff.1 h4).1).trans h4, h5⟩
 obtain ⟨A', C', e, _, hE⟩ := elems_of_own hrow hb
 simp only [Value.slice.injEq, true_and] at e
 obtain ⟨rfl, rfl⟩ := e
 refine ⟨g, hE, fun k hk => ?_⟩
 obtain ⟨b, off, C', e, hC, _, hbb, hN⟩ := h2 k hk
 exact ⟨_, _, e, by rw [e]; exact (hN.block hs (hg b hbb hN.1)).nums hC⟩
theorem held_push {w0 w1 w2 : World} {base : Nat} {v v' u : Value} {l : List Rw} {r : Rw} {g : Nat → Value} (h : HeldG w0 base v l g) (hb : Below w0.heap.size w0 w1)
 (hu : ∃ b off C, u = .slice (some ⟨b, off, none⟩) r.out.length C ∧ r.out.length ≤ C ∧ w0.heap.size ≤ b ∧ NumsAt w1 b off r.out)
 (hv : w2.ownsRow base 109 3 v' (l.length + 1) (flatCells 3 (l.length + 1) (fun i j => if i < l.length then rowCell l g i j else if j = 0 then .int .i64 r.inc else if j = 1 then .int .i64 r.use else u)))
 (hG : Grew w1 w2 v v') (hbs : base ≤ w0.heap.size) : HeldBooks w2 base v' (l ++ [r]) := by
 obtain ⟨h1, h2⟩ := h
 have hne2 : ∀ b, b < w1.heap.size → v.ownBlock ≠ some b → v'.ownBlock ≠ some b := fun b hb' hne e => by
  rcases hG.2 with h3 | h3
  · exact hne (h3.symm.trans e)
  · rw [h3] at e
    injection e with e
    omega
 refine ⟨fun i => if i < l.length then g i else u, ?_, fun k hk => ?_⟩
 · rw [List.length_append, List.length_singleton]
   have e : flatCells 3 (l.length + 1) (rowCell (l ++ [r]) (fun i => if i < l.length then g i else u)) = flatCells 3 (l.length + 1) (fun i j => if i < l.length then rowCell l g i j else if j = 0 then .int .i64 r.inc else if j = 1 then .int .i64 r.use else u) := by
    unfold flatCells
    rw [List.flatMap_def, List.flatMap_def]
    congr 1
    apply List.map_congr_left
    intro i hi
    apply List.map_congr_left
    intro j _
    by_cases hil : i < l.length
    · unfold rowCell
      rw [at_append_lt hil]
      simp only [if_pos hil]
    · have : i = l.length := by have := List.mem_range.1 hi; omega
      subst this
      unfold rowCell
      rw [at_append_eq]
      simp only [Nat.lt_irrefl, if_false]
   rw [e]; exact hv
 · rw [List.length_append, List.length_singleton] at hk
   by_cases hkl : k < l.length
   · obtain ⟨b, off, C, e, hC, hne, hB, hN⟩ := h2 k hkl
     rw [at_append_lt hkl]
     simp only [if_pos hkl]
     have hlt : b < w1.heap.size := Nat.lt_of_lt_of_le hN.1 hb.size
     exact ⟨b, off, C, e, hC, hne2 b hlt hne, hB, (hN.later hb).block hG.1.size (hG.1.block b hlt (fun e => hne e.symm))⟩
   · have : k = l.length := by omega
     subst this
     rw [at_append_eq]
     simp only [Nat.lt_irrefl, if_false]
     obtain ⟨b, off, C, e, hC, hge, hN⟩ := hu
     have hne : v.ownBlock ≠ some b := fun e => by have := (h1.lt b e).2; omega
     exact ⟨b, off, C, e, hC, hne2 b hN.1 hne, Nat.le_trans hbs hge, hN.block hG.1.size (hG.1.block b hN.1 (fun e => hne e.symm))⟩
end Go.Proofs.YtnkgakhnlbifdaaGreat
namespace Go.Proofs.YtnkgakhnlbifdaaGreat
open Go.RowKit
abbrev nilV : Value := .slice none 0 0
def KeptT (w : World) (c : Cf) (wk : World) : Prop :=
 Below w.heap.size w wk ∧ Whole wk w.heap.size 23 (cfCells c) ∧ Whole wk (w.heap.size + 1) 37 (bkCells bk0 nilV nilV nilV nilV nilV nilV nilV) ∧ Whole wk (w.heap.size + 1 + 1) 37 (bkCells bk0 nilV nilV nilV nilV nilV nilV nilV)
theorem KeptT.made (w : World) (c : Cf) : KeptT w c (((w.alloc (.cells (cfCells c) 23)).alloc (.cells (bkCells bk0 nilV nilV nilV nilV nilV nilV nilV) 37)).alloc (.cells (bkCells bk0 nilV nilV nilV nilV nilV nilV nilV) 37)) :=
 ⟨(below_two w _ _).alloc (by simp; omega) _, ((Whole.made w _ _).alloc _).alloc _, (Whole.made2 w _ _ _).alloc _, Whole.madeAt _ _ _ _ (by simp)⟩
theorem KeptT.later {w : World} {c : Cf} {wk wl : World} (h : KeptT w c wk) (hb : Below wk.heap.size wk wl) : KeptT w c wl := ⟨held_next h.1 hb, h.2.1.later hb h.2.1.lt, h.2.2.1.later hb h.2.2.1.lt, h.2.2.2.later hb h.2.2.2.lt⟩
abbrev bl00 : Bl := ⟨none, 0, 0, none, 0, 0, none, 0, 0, none, 0, 0, ⟨none, 0, 0, none, 0, 0, none, 0, 0⟩⟩
theorem Bytes.butG {G : Nat} {w0 wr : World} {B : Option Addr} {n D : Nat} {zs : List Int} {x : Bk} {lv ov nv tv uv iv : Value} {a1 : Option Addr} {m1 c1 : Nat} (h : Bytes w0 (.slice B n D) zs) (k : ButG G w0 wr)
 (hX : Whole w0 G 37 (bkCells x (.slice a1 m1 c1) lv ov nv tv uv iv)) (hl : ∀ v, v = lv ∨ v = ov ∨ v = nv ∨ v = tv ∨ v = uv ∨ v = iv → ∃ p m c, v = .slice p m c) : Bytes wr (.slice B n D) zs := by
 obtain ⟨h1, h2, h3⟩ := h
 refine ⟨h1, h2, ?_⟩
 rcases h3 with ⟨a, cap, e, h4, h5⟩ | ⟨b, off, cap, e, hc⟩
 · exact Or.inl ⟨a, cap, e, h4, h5⟩
 · refine Or.inr ⟨b, off, cap, e, fun j hj => k.cell_of (hc j hj) fun e2 => ?_⟩
   have h6 := hc j hj
   simp only at e2
   subst e2
   rw [hX.cell] at h6
   have h7 : off + j < 12 := by
    have := (Array.getElem?_eq_some_iff.1 h6).1
    simpa using this
   obtain ⟨p1, m1, q1, rfl⟩ := hl lv (Or.inl rfl)
   obtain ⟨p2, m2, q2, rfl⟩ := hl ov (Or.inr (Or.inl rfl))
   obtain ⟨p3, m3, q3, rfl⟩ := hl nv (Or.inr (Or.inr (Or.inl rfl)))
   obtain ⟨p4, m4, q4, rfl⟩ := hl tv (Or.inr (Or.inr (Or.inr (Or.inl rfl))))
   obtain ⟨p5, m5, q5, rfl⟩ := hl uv (Or.inr (Or.inr (Or.inr (Or.inr (Or.inl rfl)))))
   obtain ⟨p6, m6, q6, rfl⟩ := hl iv (Or.inr (Or.inr (Or.inr (Or.inr (Or.inr rfl)))))
   generalize off + j = t at h6 h7
   match t, h7 with
   | 0, _ => cases h6
   | 1, _ => cases h6
   | 2, _ => cases h6
   | 3, _ => cases h6
   | 4, _ => cases h6
   | 5, _ => cases h6
   | 6, _ => cases h6
   | 7, _ => cases h6
   | 8, _ => cases h6
   | 9, _ => cases h6
   | 10, _ => cases h6
   | 11, _ => cases h6
def FarK (g : Nat) (p : Bl) : Prop :=
 (∀ ad, p.a2 = some ad → ad.block ≠ g) ∧ (∀ ad, p.a3 = some ad → ad.block ≠ g) ∧ (∀ ad, p.a4 = some ad → ad.block ≠ g) ∧ (∀ ad, p.al.a1 = some ad → ad.block ≠ g) ∧ (∀ ad, p.al.a2 = some ad → ad.block ≠ g) ∧ (∀ ad, p.al.a3 = some ad → ad.block ≠ g)
theorem bk12_elems' {wx : World} {g sz n c m : Nat} {A : Option Addr} {f : Nat → Nat → Value} {x : Bk} {rv lv ov nv tv uv iv : Value} (h : Elems wx (.slice A n c) sz m f) (hn : n = m) (hg : ∀ ad, A = some ad → ad.block ≠ g) : Elems (bk12 wx g x rv lv ov nv tv uv iv) (.slice A n c) sz m f := by
 subst hn
 exact bk12_elems h hg
theorem bk12_far {B : Nat} {wx : World} {g : Nat} {v : Value} {l : List Rw} {x : Bk} {rv lv ov nv tv uv iv : Value} (h : BooksFar B wx v l) (hg : g < B) : BooksFar B (bk12 wx g x rv lv ov nv tv uv iv) v l :=
 (((((((((((h.other (p := ⟨g, 0, none⟩) hg _).other (p := ⟨g, 1, none⟩) hg _).other (p := ⟨g, 2, none⟩) hg _).other (p := ⟨g, 3, none⟩) hg _).other (p := ⟨g, 4, none⟩) hg _).other (p := ⟨g, 5, none⟩) hg _).other (p := ⟨g, 6, none⟩) hg _).other (p := ⟨g, 7, none⟩) hg _).other (p := ⟨g, 8, none⟩) hg _).other (p := ⟨g, 9, none⟩) hg _).other (p := ⟨g, 10, none⟩) hg _).other (p := ⟨g, 11, none⟩) hg _
theorem bk12_in {B g : Nat} {wk : World} {x y : Bk} {p : Bl} {rv lv ov nv tv uv iv : Value} (h : BkIn wk p y) (hf : BooksFar B wk (.slice p.a1 p.m1 p.c1) y.rows) (hg : g < B) (hF : FarK g p) : BkIn (bk12 wk g x rv lv ov nv tv uv iv) p y := by
 obtain ⟨⟨m1, _⟩, ⟨m2, h2⟩, ⟨m3, h3⟩, ⟨m4, h4⟩, ⟨m5, h5⟩, ⟨m6, h6⟩, m7, h7⟩ := h
 obtain ⟨f2, f3, f4, f5, f6, f7⟩ := hF
 exact ⟨⟨m1, (bk12_far hf hg).1⟩, ⟨m2, bk12_elems' h2 m2 f2⟩, ⟨m3, bk12_elems' h3 m3 f3⟩, ⟨m4, bk12_elems' h4 m4 f4⟩, ⟨m5, bk12_elems' h5 m5 f5⟩, ⟨m6, bk12_elems' h6 m6 f6⟩, m7, bk12_elems' h7 m7 f7⟩
end Go.Proofs.YtnkgakhnlbifdaaGreat
namespace Go.Proofs.YtnkgakhnlbifdaaGreat
open Go.RowKit
set_option maxRecDepth 100000 in
set_option maxHeartbeats 1000000 in
theorem refshort_calls (a : Option Addr) (m d : Nat) (l : List Rw) (hm : m = l.length) (hR : Reach l) (w : World) (hA : Books w (.slice a m d) l) :
 Calls Tryz.prog 30 #[.slice a m d] w (Says w (shortB l)) := by
 have hbm : m ≤ 17592186044416 := by rw [hm]; exact hR.1
 have HA := Lib.hid hA; clear hA
 have Hm := Lib.hid hm; clear hm
 have HR := Lib.hid hR; clear hR
 obtain ⟨res, Hres⟩ : ∃ z, Hid (shortB l = z) := ⟨_, rfl⟩
 rw [Hres.out]
 go_enter Tryz.func30, Tryz.ntmps30
 go_wp2
 go_loop [3, 4] (fun t x => ∃ k T : Nat, k ≤ m ∧ x = .int .i64 k ∧ t = .int .i64 T ∧ T ≤ 17592186045000 ∧ Hid (T = bulk l k)) (fun _ x => m - (intOf x).toNat)
 case atStart => exact ⟨0, m, Nat.zero_le _, rfl, rfl, by omega, Hm.out⟩
 case round =>
  obtain ⟨k, T, hk, rfl, rfl, hT, HT⟩ := hrel
  by_cases h4 : T ≤ 400
  · by_cases hlt : k < m
    · obtain ⟨g1, o1, A1, C1, rfl, _, _, _, c2, _⟩ := HA.out.at (k := k) (by have := Hm.out; omega)
      have hx := HR.out.2 k (by have := Hm.out; omega)
      obtain ⟨x, Hx⟩ : ∃ z, Hid ((at_ l k).out.length = z) := ⟨_, rfl⟩
      rw [Hx.out] at c2 hx
      have k0 : (0 : Int) ≤ (k : Int) := by omega
      have k1 : (k : Int) < (m : Int) := by omega
      go_wp2
      go_round
      case rel => exact ⟨k + 1, T + x, by omega, by go_num, by go_num, by omega, show _ = _ by rw [HT.out, ← Hx.out]; rfl⟩
      case measure => simp [intOf]; omega
    · have hkm : k = m := by omega
      obtain rfl : res = true := Hres.out.symm.trans (decide_eq_true (by rw [← Hm.out, ← hkm, ← HT.out]; exact h4))
      have Hkm := Lib.hid hkm; clear hkm
      go_wp2
      go_ret
      exact ⟨by simp; omega, Below.refl _ _⟩
  · obtain rfl : res = false := Hres.out.symm.trans (decide_eq_false fun h => by
     have := bulk_mono l k l.length (by have := Hm.out; omega)
     have := HT.out
     omega)
    go_wp2
    all_goals go_ret
    all_goals exact ⟨by simp; omega, Below.refl _ _⟩
end Go.Proofs.YtnkgakhnlbifdaaGreat
namespace Go.Proofs.YtnkgakhnlbifdaaGreat
open Go.RowKit
def shortK (x : Bk) (p : Bl) : Bool := shortB x.rows && (decide (p.m2 ≤ 40) && (decide (p.m3 ≤ 40) && (decide (p.m4 ≤ 40) && (decide (p.al.m1 ≤ 40) && (decide (p.al.m2 ≤ 40) && decide (p.al.m3 ≤ 40))))))
set_option maxRecDepth 100000 in
set_option maxHeartbeats 4000000 in
theorem refkshort_calls (x : Bk) (p : Bl) (hR : Reach x.rows) (w : World) (hK : BkIn w p x) : Calls Tryz.prog 10 #[bkAt x p] w (Says w (shortK x p)) := by
 obtain ⟨⟨hm1, hB1⟩, ⟨hm2, hB2⟩, ⟨hm3, hB3⟩, ⟨hm4, hB4⟩, ⟨hm5, hB5⟩, ⟨hm6, hB6⟩, hm7, hB7⟩ := hK
 have b2 : p.m2 ≤ 9223372036854775807 := by rw [hm2]; exact hB2.1
 have b3 : p.m3 ≤ 9223372036854775807 := by rw [hm3]; exact hB3.1
 have b4 : p.m4 ≤ 9223372036854775807 := by rw [hm4]; exact hB4.1
 have b5 : p.al.m1 ≤ 9223372036854775807 := by rw [hm5]; exact hB5.1
 have b6 : p.al.m2 ≤ 9223372036854775807 := by rw [hm6]; exact hB6.1
 have b7 : p.al.m3 ≤ 9223372036854775807 := by rw [hm7]; exact hB7.1
 have HX := Lib.hid (Whole.made w 37 (bkAtC x p))
 have Hb0 := Lib.hid (below_box w (.cells (bkAtC x p) 37))
 have hcall := fun w hw => refshort_calls p.a1 p.m1 p.c1 x.rows hm1 hR w hw
 have HB1 := Lib.hid hB1
 obtain ⟨clk, rows, line, outs, asks, notes, ⟨tr, ph, told, use, inc, moved⟩⟩ := x
 obtain ⟨a1, m1, c1, a2, m2, c2, a3, m3, c3, a4, m4, c4, ⟨a5, m5, c5, a6, m6, c6, a7, m7, c7⟩⟩ := p
 simp only at b2 b3 b4 b5 b6 b7
 obtain ⟨z, Hz⟩ : ∃ z, Hid (shortB rows = z) := ⟨_, rfl⟩
 simp only at hcall
 rw [Hz.out] at hcall
 have Hcall := Lib.hid hcall
 clear hcall hB1 hB2 hB3 hB4 hB5 hB6 hB7 hm1 hm2 hm3 hm4 hm5 hm6 hm7 hR
 obtain ⟨res, Hres⟩ : ∃ y, Hid ((shortB rows && (decide (m2 ≤ 40) && (decide (m3 ≤ 40) && (decide (m4 ≤ 40) && (decide (m5 ≤ 40) && (decide (m6 ≤ 40) && decide (m7 ≤ 40))))))) = y) := ⟨_, Lib.hid rfl⟩
 show Calls _ _ _ _ (Says w (shortB rows && (decide (m2 ≤ 40) && (decide (m3 ≤ 40) && (decide (m4 ≤ 40) && (decide (m5 ≤ 40) && (decide (m6 ≤ 40) && decide (m7 ≤ 40))))))))
 rw [Hres.out]
 have HR := Hres.out
 rw [Hz.out] at HR
 have HRes := Lib.hid HR
 clear HR Hres
 go_enter Tryz.func10, Tryz.ntmps10
 go_wp2_with fail
 refine (Hcall.out _ (HB1.out.later Hb0.out)).mono ?_
 rintro e w1 ⟨rfl, hb⟩
 have Hb1 := Lib.hid (held_next Hb0.out hb)
 have HX1 := Lib.hid (HX.out.later hb HX.out.lt)
 clear hb Hcall
 obtain ⟨⟨z0, z1, z2, z3⟩, ⟨z4, z5, z6, z7⟩, z8, z9, z10, z11⟩ := bk_cells HX1.out
 simp only at z0 z1 z2 z3 z4 z5 z6 z7 z8 z9 z10 z11
 cases z with
 | false =>
   obtain rfl : res = false := HRes.out.symm
   go_wp2_with fail
   go_ret
   exact ⟨by rfl, Hb1.out⟩
 | true =>
   by_cases q2 : m2 ≤ 40
   · by_cases q3 : m3 ≤ 40
     · by_cases q4 : m4 ≤ 40
       · by_cases q5 : m5 ≤ 40
         · by_cases q6 : m6 ≤ 40
           · by_cases q7 : m7 ≤ 40
             · obtain rfl : res = true := HRes.out.symm.trans (by simp [q2, q3, q4, q5, q6, q7])
               go_wp2_with fail
               go_ret
               exact ⟨by simp; omega, Hb1.out⟩
             · obtain rfl : res = false := HRes.out.symm.trans (by simp [q2, q3, q4, q5, q6, q7])
               go_wp2_with fail
               go_ret
               exact ⟨by simp; omega, Hb1.out⟩
           · obtain rfl : res = false := HRes.out.symm.trans (by simp [q2, q3, q4, q5, q6])
             go_wp2_with fail
             go_ret
             exact ⟨by rfl, Hb1.out⟩
         · obtain rfl : res = false := HRes.out.symm.trans (by simp [q2, q3, q4, q5])
           go_wp2_with fail
           go_ret
           exact ⟨by rfl, Hb1.out⟩
       · obtain rfl : res = false := HRes.out.symm.trans (by simp [q2, q3, q4])
         go_wp2_with fail
         go_ret
         exact ⟨by rfl, Hb1.out⟩
     · obtain rfl : res = false := HRes.out.symm.trans (by simp [q2, q3])
       go_wp2_with fail
       go_ret
       exact ⟨by rfl, Hb1.out⟩
   · obtain rfl : res = false := HRes.out.symm.trans (by simp [q2])
     go_wp2_with fail
     go_ret
     exact ⟨by rfl, Hb1.out⟩
end Go.Proofs.YtnkgakhnlbifdaaGreat
namespace Go.Proofs.YtnkgakhnlbifdaaGreat
open Go.RowKit
theorem refkone_calls (b : Bool) (w : World) : Calls Tryz.prog 42 #[.bool b] w (fun e w' => e = .returned (.int .i64 (oneI b)) ∧ w' = w) := by
 cases b with
 | false =>
   go_enter Tryz.func42, Tryz.ntmps42
   go_wp2_with fail
   go_ret
   exact ⟨by rfl, rfl⟩
 | true =>
   go_enter Tryz.func42, Tryz.ntmps42
   go_wp2_with fail
   go_ret
   exact ⟨by rfl, rfl⟩
set_option maxRecDepth 100000 in
theorem refkbound_calls (c : Cf) (w : World) : Calls Tryz.prog 16 #[cfV c] w (fun e w' => e = .returned (.int .i64 (boundV c)) ∧ Below w.heap.size w w') := by
 have HW := Lib.hid (Whole.made w 23 (cfCells c))
 have Hb0 := Lib.hid (below_box w (.cells (cfCells c) 23))
 obtain ⟨nn, q, r, p, kk, cc⟩ := c
 obtain ⟨ok, Hok⟩ : ∃ z, Hid (cfB ⟨nn, q, r, p, kk, cc⟩ = z) := ⟨_, rfl⟩
 have hcall := fun w => refcfg_calls ⟨nn, q, r, p, kk, cc⟩ w
 rw [Hok.out] at hcall
 have Hcall := Lib.hid hcall
 clear hcall
 obtain ⟨B, HB⟩ : ∃ z, Hid (boundV ⟨nn, q, r, p, kk, cc⟩ = z) := ⟨_, Lib.hid rfl⟩
 rw [HB.out]
 go_enter Tryz.func16, Tryz.ntmps16
 go_wp2_with fail
 refine (Hcall.out _).mono ?_
 rintro e w1 ⟨rfl, hb⟩
 have Hb1 := Lib.hid (held_next Hb0.out hb)
 have HW1 := Lib.hid (HW.out.later hb HW.out.lt)
 clear hb
 obtain ⟨d0, d1, d2, d3, d4, d5⟩ := config_cells HW1.out
 simp only at d0 d1 d2 d3 d4 d5
 cases ok with
 | false =>
   have hno : boundV ⟨nn, q, r, p, kk, cc⟩ = 0 := if_neg fun h => by
    have h1 := decide_eq_true h
    rw [show decide (cfOk ⟨nn, q, r, p, kk, cc⟩) = false from Hok.out] at h1
    cases h1
   obtain rfl : B = 0 := HB.out.symm.trans hno
   clear hno
   go_wp2_with fail
   go_ret
   exact ⟨by rfl, Hb1.out⟩
 | true =>
   have hok : cfOk ⟨nn, q, r, p, kk, cc⟩ := of_decide_eq_true Hok.out
   have hyes : boundV ⟨nn, q, r, p, kk, cc⟩ = 16 * (nn * (nn + 12) + 6 * q + 20) := if_pos hok
   have HY := Lib.hid (HB.out.symm.trans hyes)
   have h1 : 1 ≤ nn ∧ nn ≤ 16 := by have h := hok; unfold cfOk at h; simp only at h; omega
   have h2 : 0 ≤ q ∧ q ≤ 1000000 := by have h := hok; unfold cfOk at h; simp only at h; omega
   have h3 : 0 ≤ nn * (nn + 12) ∧ nn * (nn + 12) ≤ 448 := by
    obtain ⟨m, hm⟩ : ∃ m : Nat, nn = (m : Int) := ⟨nn.toNat, by omega⟩
    subst hm
    have h4 : m * (m + 12) ≤ 16 * 28 := Nat.mul_le_mul (by omega) (by omega)
    have h5 : (m : Int) * ((m : Int) + 12) = ((m * (m + 12) : Nat) : Int) := by push_cast; rfl
    omega
   clear hok hyes
   obtain ⟨S, hS⟩ : ∃ S, nn * (nn + 12) = S := ⟨_, rfl⟩
   rw [hS] at h3 HY
   have hB2 := HY.out
   subst hB2
   clear HY
   have w1' : IntKind.i64.wrap (nn + 12) = nn + 12 := IntWalk.i64_in _ (by omega)
   have w2' : IntKind.i64.wrap (nn * (nn + 12)) = S := by rw [hS]; exact IntWalk.i64_in _ (by omega)
   have w3' : IntKind.i64.wrap (6 * q) = 6 * q := IntWalk.i64_in _ (by omega)
   have w4' : IntKind.i64.wrap (S + 6 * q) = S + 6 * q := IntWalk.i64_in _ (by omega)
   have w5' : IntKind.i64.wrap (S + 6 * q + 20) = S + 6 * q + 20 := IntWalk.i64_in _ (by omega)
   have w6' : IntKind.i64.wrap (16 * (S + 6 * q + 20)) = 16 * (S + 6 * q + 20) := IntWalk.i64_in _ (by omega)
   have HS := Lib.hid hS
   clear hS h1 h2 h3
   go_wp2_with fail
   go_ret
   exact ⟨by rfl, Hb1.out⟩
end Go.Proofs.YtnkgakhnlbifdaaGreat
namespace Go.Proofs.YtnkgakhnlbifdaaGreat
open Go
section
variable {P : Program} {ops : Array Oper} {Q : Exit → Act → World → Prop}
def backward (ops : Array Oper) : Bool := (List.range ops.size).all fun i => match ops[i]? with
 | some o => o.after.all fun e => !Region.binds .any e || decide (e.on < i)
 | none => true
def waitsFor (ops : Array Oper) (i : Nat) : List Nat := match ops[i]? with
 | some o => (o.after.toList.filter (Region.binds .any)).map (·.on)
 | none => []
def oneMore (d : Nat → Bool) (i : Nat) : Nat → Bool := fun k => k == i || d k
theorem oneMore_same (d : Nat → Bool) (i : Nat) : oneMore d i i = true := by simp [oneMore]
theorem oneMore_other {d : Nat → Bool} {i k : Nat} (h : k ≠ i) : oneMore d i k = d k := by simp [oneMore, h]
def still (n : Nat) (d : Nat → Bool) : Nat := ((List.range n).filter fun k => !d k).length
theorem still_more {n : Nat} {d : Nat → Bool} {i : Nat} (hi : i < n) (hd : d i = false) : still n (oneMore d i) < still n d := by
 unfold still
 induction n with
 | zero => omega
 | succ n ih =>
   rw [List.range_succ, List.filter_append, List.filter_append, List.length_append, List.length_append]
   by_cases h : i = n
   · subst h
     have e1 : (List.range i).filter (fun k => !oneMore d i k) = (List.range i).filter (fun k => !d k) := by
      apply List.filter_congr
      intro k hk
      rw [oneMore_other (by have := List.mem_range.1 hk; omega)]
     rw [e1]
     simp [oneMore_same, hd]
   · have := ih (by omega)
     have e2 : [n].filter (fun k => !oneMore d i k) = [n].filter (fun k => !d k) := by
      apply List.filter_congr
      intro k hk
      rw [oneMore_other (by have := List.mem_singleton.1 hk; omega)]
     rw [e2]
     omega
theorem wpAny_each (hb : backward ops = true) (J : (Nat → Bool) → Act → World → Prop)
 (hstep : ∀ (i : Nat) (d : Nat → Bool) (a : Act) (w : World), i < ops.size → J d a w → d i = false → (∀ k ∈ waitsFor ops i, d k = true) → wpOp P ops Q i (fun a' w' => J (oneMore d i) a' w') a w)
 (hend : ∀ (d : Nat → Bool) (a : Act) (w : World), J d a w → (∀ i, i < ops.size → d i = true) → Q .normal a w) :
 ∀ (fuel : Nat) (listed : Array Bool) (d : Nat → Bool) (a : Act) (w : World), listed.size = ops.size → (∀ i, i < ops.size → listed[i]? = some (d i)) → still ops.size d ≤ fuel → J d a w → wpAny P .any ops Q fuel listed a w := by
 intro fuel
 induction fuel with
 | zero =>
   intro listed d a w hs hl hf hJ
   have hall : ∀ i, i < ops.size → d i = true := by
    intro i hi
    cases h : d i with
    | true => rfl
    | false =>
      have hlen : 0 < ((List.range ops.size).filter fun k => !d k).length := List.length_pos_of_mem (a := i) (List.mem_filter.2 ⟨List.mem_range.2 hi, by simp [h]⟩)
      unfold still at hf
      omega
   refine ⟨?_, hend d a w hJ hall⟩
   by_cases hr : Region.ready .any ops listed = []
   · exact hr
   · obtain ⟨j, hj⟩ := List.exists_mem_of_ne_nil _ hr
     obtain ⟨h1, o, ho, _⟩ := mem_ready.1 hj
     have hjs : j < ops.size := (Array.getElem?_eq_some_iff.1 ho).1
     rw [Array.getD_eq_getD_getElem?, hl j hjs, hall j hjs] at h1
     simp at h1
 | succ fuel ih =>
   intro listed d a w hs hl hf hJ
   refine ⟨fun hr => hend d a w hJ ?_, fun i hi => ?_⟩
   · intro i
     induction i using Nat.strongRecOn with
     | ind i ihi =>
       intro hi
       cases h : d i with
       | true => rfl
       | false =>
         have : i ∈ Region.ready .any ops listed := by
          refine mem_ready.2 ⟨by rw [Array.getD_eq_getD_getElem?, hl i hi, h]; rfl, ops[i], Array.getElem?_eq_getElem hi, fun e he hbe => ?_⟩
          have hlt : e.on < i := by
           have h2 := List.all_eq_true.1 hb i (List.mem_range.2 hi)
           simp only [Array.getElem?_eq_getElem hi] at h2
           have h3 := Array.all_eq_true_iff_forall_mem.1 h2 e he
           rw [hbe, Bool.not_true, Bool.false_or] at h3
           exact of_decide_eq_true h3
          have := ihi e.on hlt (by omega)
          rw [Array.getD_eq_getD_getElem?, hl e.on (by omega), this]; rfl
         rw [hr] at this
         cases this
   · obtain ⟨h1, o, ho, hdep⟩ := mem_ready.1 hi
     have his : i < ops.size := (Array.getElem?_eq_some_iff.1 ho).1
     have hdi : d i = false := by
      rw [Array.getD_eq_getD_getElem?, hl i his] at h1
      simpa using h1
     refine wpOp_mono (fun a' w' hJ' => ih (listed.setIfInBounds i true) (oneMore d i) a' w' (by simpa using hs) ?_ ?_ hJ') (hstep i d a w his hJ hdi ?_)
     · intro k hk
       by_cases e : k = i
       · subst e
         rw [oneMore_same, Array.getElem?_setIfInBounds_self_of_lt (by omega)]
       · rw [oneMore_other e, Array.getElem?_setIfInBounds_ne (fun h => e h.symm)]
         exact hl k hk
     · have := still_more his hdi
       omega
     · intro k hk
       unfold waitsFor at hk
       rw [ho] at hk
       obtain ⟨e, he, rfl⟩ := List.mem_map.1 hk
       obtain ⟨he1, he2⟩ := List.mem_filter.1 he
       have h3 := hdep e (Array.mem_toList_iff.1 he1) he2
       have hes : e.on < ops.size := by
        have h2 := List.all_eq_true.1 hb i (List.mem_range.2 his)
        simp only [ho] at h2
        have h3 := Array.all_eq_true_iff_forall_mem.1 h2 e (Array.mem_toList_iff.1 he1)
        rw [he2, Bool.not_true, Bool.false_or] at h3
        have := of_decide_eq_true h3
        omega
       rw [Array.getD_eq_getD_getElem?, hl e.on hes] at h3
       simpa using h3
theorem wp_region_each {id : Nat} {a : Act} {w : World} (hm : P.follows .mixedOrders = true) (hb : backward ops = true) (J : (Nat → Bool) → Act → World → Prop) (h0 : J (fun _ => false) a w.drew)
 (hstep : ∀ (i : Nat) (d : Nat → Bool) (a : Act) (w : World), i < ops.size → J d a w → d i = false → (∀ k ∈ waitsFor ops i, d k = true) → wpOp P ops Q i (fun a' w' => J (oneMore d i) a' w') a w)
 (hend : ∀ (d : Nat → Bool) (a : Act) (w : World), J d a w → (∀ i, i < ops.size → d i = true) → Q .normal a w) : (Code.region id ops true).wp P Q a w := by
 refine wp_region_any hm (wpAny_each hb J hstep hend ops.size _ (fun _ => false) a _ (by simp) (fun i hi => by simp [hi]) ?_ h0)
 exact Nat.le_trans (List.length_filter_le _ _) (by simp)
theorem wp_region_each_at {id : Nat} {a : Act} {w : World} (hm : P.follows .mixedOrders = true) (hb : backward ops = true) (J : Act → (Nat → Bool) → Act → World → Prop) (h0 : J a (fun _ => false) a w.drew)
 (hstep : ∀ (i : Nat) (d : Nat → Bool) (a' : Act) (w' : World), i < ops.size → J a d a' w' → d i = false → (∀ k ∈ waitsFor ops i, d k = true) → wpOp P ops Q i (fun a'' w'' => J a (oneMore d i) a'' w'') a' w')
 (hend : ∀ (d : Nat → Bool) (a' : Act) (w' : World), J a d a' w' → (∀ i, i < ops.size → d i = true) → Q .normal a' w') : (Code.region id ops true).wp P Q a w :=
 wp_region_each hm hb (J a) h0 hstep hend
theorem wpOp_at {i : Nat} {o : Oper} {rest : List Oper} {K : Act → World → Prop} {a : Act} {w : World} (ho : ops.toList.drop i = o :: rest)
 (h : ∀ K' : Act → World → Prop, (∀ a w, K a w → K' a w) → if Region.wanted o (yielded ops a.tmps) = true then Oper.wp P o a w K' Q else K' (a.put o.dst undef) w) : wpOp P ops Q i K a w := by
 refine wpOp_step (o := o) ?_ h
 have h1 : (ops.toList.drop i)[0]? = ops.toList[i]? := by rw [List.getElem?_drop, Nat.add_zero]
 rw [ho] at h1
 rw [← Array.getElem?_toList, ← h1]; rfl
def putAll (a : Act) : List (Nat × Value) → Act
 | [] => a
 | (k, v) :: l => putAll (a.put (some k) v) l
end
end Go.Proofs.YtnkgakhnlbifdaaGreat
namespace Go.Proofs.YtnkgakhnlbifdaaGreat
open Go.ChangeShapes Go.WideShapes Go.ChangeAt Go.RowKit
def Fresh (B : Nat) (e : TypeId) (w : World) (v : Value) (zs : List Int) : Prop :=
 w.ownsRow B e 1 v zs.length (zs.map (Value.int .u8)) ∧ v ≠ .slice none 0 0 ∧ ∀ c ∈ zs, 0 ≤ c ∧ c < 256
theorem Fresh.form {B : Nat} {e : TypeId} {w : World} {v : Value} {zs : List Int} (h : Fresh B e w v zs) :
 ∃ g cap, v = .slice (some ⟨g, 0, none⟩) zs.length cap ∧ B ≤ g ∧ g < w.heap.size ∧ zs.length ≤ cap ∧ zs.length ≤ 9223372036854775807 := by
 rcases h.1.2 with ⟨h1, _⟩ | ⟨g, cap, cur, rfl, hg, hh, hn, hm, _⟩
 · exact absurd h1 h.2.1
 · exact ⟨g, cap, rfl, hg, (Array.getElem?_eq_some_iff.1 hh).1, hn, by unfold maxLen at hm; omega⟩
theorem Fresh.bytes {B : Nat} {e : TypeId} {w : World} {v : Value} {zs : List Int} (h : Fresh B e w v zs) : Bytes w v zs := by
 obtain ⟨g, cap, _, _, _, _, hm⟩ := h.form
 obtain ⟨_, _, _, _, _, _, hb⟩ := bytes_of_own h.1 h.2.1 hm h.2.2
 exact hb
theorem Fresh.mono {B B' : Nat} {e : TypeId} {w : World} {v : Value} {zs : List Int} (h : Fresh B e w v zs) (hB : B' ≤ B) : Fresh B' e w v zs :=
 ⟨⟨h.1.1, h.1.2.imp id fun ⟨g, cap, cur, h1, h2, h3⟩ => ⟨g, cap, cur, h1, Nat.le_trans hB h2, h3⟩⟩, h.2⟩
theorem Fresh.later {B : Nat} {e : TypeId} {w w' : World} {v : Value} {zs : List Int} (h : Fresh B e w v zs) (hb : Below w.heap.size w w') : Fresh B e w' v zs :=
 ⟨h.1.kept (row := none) ⟨hb.os, hb.tape, hb.output, hb.size, fun k hk _ => hb.block k hk⟩ (by cases v.ownBlock <;> simp), h.2⟩
def Tail (B : Nat) (e : TypeId) (w : World) (v : Value) (zs : List Int) : Prop :=
 (∃ a, v = .slice a zs.length zs.length ∧ Bytes w v zs) ∨ Fresh B e w v zs
theorem Tail.later {B : Nat} {e : TypeId} {w w' : World} {v : Value} {zs : List Int} (h : Tail B e w v zs) (hb : Below w.heap.size w w') : Tail B e w' v zs :=
 h.imp (fun ⟨a, h1, h2⟩ => ⟨a, h1, h2.later hb⟩) (fun h => h.later hb)
theorem Tail.alloc {B : Nat} {e : TypeId} {w : World} {v : Value} {zs : List Int} (h : Tail B e w v zs) (o : Obj) : Tail B e (w.alloc o) v zs := h.later ((Below.refl _ _).alloc (Nat.le_refl _) _)
theorem Tail.small {B : Nat} {e : TypeId} {w : World} {v : Value} {zs : List Int} (h : Tail B e w v zs) : ∀ c ∈ zs, 0 ≤ c ∧ c < 256 := by
 rcases h with ⟨_, _, h⟩ | h
 · exact h.2.1
 · exact h.2.2
theorem cell_new (w : World) (C : Array Value) (T : TypeId) (m : Nat × Nat) (j : Nat) (v : Value) (h : C[j]? = some v) : (w.alloc (.cells C T m)).cell? ⟨w.heap.size, j, none⟩ = some v := by
 have e : (w.alloc (.cells C T m)).heap[w.heap.size]? = some (.cells C T m) := by
  show (w.heap.push _)[w.heap.size]? = _
  simp
 unfold World.cell?
 rw [e]
 exact h
theorem wpList_append_byte {P : Program} {w : World} {ops : Array Oper} {rest : List Oper} {o : Oper} {a : Act} {Q : Exit → Act → World → Prop} (hgd : o.guard = none) (s x : Operand) (t : TypeId)
 (ho : o.op = .call { callee := .builtin .append, args := #[s, x], argTypes := #[t, t] })
 (B : Nat) (e : TypeId) (i : TypeInfo) (ht : P.underlying t = some (.slice e)) (hi : P.info? e = some i) (hz : i.zero = some (.int .u8 0)) (hsize : i.size = 1) (hby : i.bytes = 1)
 (v : Value) (zs : List Int) (hs : a.eval s = v) (hT : Tail B e w v zs) (c : Int) (hc : 0 ≤ c ∧ c < 256)
 (ad : Addr) (cp : Nat) (hx : a.eval x = .slice (some ad) 1 cp) (hnew : w.cell? ad = some (.int .u8 c)) (h63 : zs.length + 1 ≤ 140737488355328) (hB : B ≤ w.heap.size)
 (h : ∀ v' w', Fresh B e w' v' (zs ++ [c]) → Below B w w' → wpList P ops Q rest (a.put o.dst v') w') : wpList P ops Q (o :: rest) a w := by
 have hmax : zs.length + 1 ≤ maxLen := by unfold maxLen; omega
 have hsm := hT.small
 have hnews : ∀ j u, [Value.int IntKind.u8 c][j]? = some u → w.cell? (ad.add j) = some u := by
  intro j u hu
  have hj : j = 0 := by
   rcases Nat.eq_zero_or_pos j with h0 | h0
   · exact h0
   · rw [List.getElem?_eq_none (by simp; omega)] at hu; cases hu
  subst hj
  rw [show ad.add 0 = ad by cases ad; simp [Addr.add], hnew]
  simpa using hu
 have h1 : ∀ u ∈ [Value.int IntKind.u8 c], u.oneCell' = true := fun u hu => by rw [List.mem_singleton.1 hu]; rfl
 have hsm2 : ∀ d ∈ zs ++ [c], 0 ≤ d ∧ d < 256 := fun d hd => by
  rcases List.mem_append.1 hd with hd | hd
  · exact hsm d hd
  · rw [List.mem_singleton.1 hd]; exact hc
 rcases hT with ⟨ao, hv, hb⟩ | hF
 · refine wpList_append_grows w hgd s x t ho e i (.int .u8 0) 1 1 ht hi hz hsize hby rfl (by decide) ao zs.length zs.length (zs.map (Value.int .u8)) (hs.trans hv) ?_ (by simp) ?_ ad 1 cp [.int .u8 c] hx rfl hnews h1 (by omega) hmax (by omega) ?_
   · intro hn
     obtain ⟨_, _, hb | ⟨b, off, cap, hv', _⟩⟩ := hb
     · obtain ⟨_, _, _, _, rfl⟩ := hb; exact ⟨rfl, rfl⟩
     · rw [hv] at hv'; simp only [Value.slice.injEq] at hv'; rw [hn] at hv'; cases hv'.1
   · intro b hbo j u hu
     have hj : j < zs.length := by
      have := (List.getElem?_eq_some_iff.1 hu).1
      simpa using this
     obtain ⟨_, _, hb | ⟨b', off, cap, hv', hcell⟩⟩ := hb
     · obtain ⟨_, _, _, _, rfl⟩ := hb; simp at hj
     · rw [hv] at hv'
       simp only [Value.slice.injEq] at hv'
       rw [hbo] at hv'
       obtain ⟨e1, _⟩ := hv'
       injection e1 with e1
       subst e1
       rw [add_plain, hcell j hj]
       simp [List.getElem?_map, List.getElem?_eq_getElem hj] at hu
       simp [List.getD_eq_getElem?_getD, List.getElem?_eq_getElem hj, hu]
   · intro v' w' g1 g2
     refine h v' w' ⟨?_, ?_, hsm2⟩ ((Below.refl _ _).grown g2 hB (fun k hk => by cases hk))
     · have e1 : (zs ++ [c]).length = zs.length + 1 := by simp
       rw [e1, List.map_append]
       exact ⟨g1.1, g1.2.imp id fun ⟨g, cap, cur, k1, k2, k3⟩ => ⟨g, cap, cur, k1, Nat.le_trans hB k2, k3⟩⟩
     · rintro rfl
       rcases g1.2 with ⟨_, hn⟩ | ⟨g, cap, cur, k1, _⟩
       · omega
       · cases k1
 · refine wpList_append_own w hgd s x t ho B e i (.int .u8 0) 1 1 ht hi hz hsize hby rfl (by decide) v zs.length (zs.map (Value.int .u8)) hs hF.1 ad 1 cp [.int .u8 c] hx rfl hnews h1 hmax (by omega) hB ?_
   intro v' w' g1 g2 g3
   refine h v' w' ⟨?_, ?_, hsm2⟩ ((Below.refl _ _).grown g2 hB (fun k hk => (hF.1.lt k hk).1))
   · have e1 : (zs ++ [c]).length = zs.length + 1 := by simp
     rw [e1, List.map_append]
     exact g1
   · intro e0
     have := (g3.1 e0).2
     omega
theorem wpList_append_more {P : Program} {w : World} {ops : Array Oper} {rest : List Oper} {o : Oper} {a : Act} {Q : Exit → Act → World → Prop} (hgd : o.guard = none) (s x : Operand) (t : TypeId)
 (ho : o.op = .call { callee := .builtin .append, args := #[s, x], argTypes := #[t, t] })
 (B : Nat) (e : TypeId) (i : TypeInfo) (ht : P.underlying t = some (.slice e)) (hi : P.info? e = some i) (hz : i.zero = some (.int .u8 0)) (hsize : i.size = 1) (hby : i.bytes = 1)
 (v : Value) (zs : List Int) (hs : a.eval s = v) (hF : Fresh B e w v zs) (xv : Value) (xs : List Int) (hx : a.eval x = xv) (hX : Bytes w xv xs) (h63 : zs.length + xs.length ≤ 140737488355328) (hB : B ≤ w.heap.size)
 (h : ∀ v' w', Fresh B e w' v' (zs ++ xs) → Below B w w' → wpList P ops Q rest (a.put o.dst v') w') : wpList P ops Q (o :: rest) a w := by
 refine wpList_append_bytes hgd s x t ho B e i ht hi hz hsize hby v zs.length (zs.map (Value.int .u8)) hs hF.1 xv xs hx hX h63 hB ?_
 intro v' w' g1 g2 g3
 refine h v' w' ⟨?_, fun e0 => hF.2.1 (g3 e0), fun d hd => ?_⟩ ((Below.refl _ _).grown g2 hB (fun k hk => (hF.1.lt k hk).1))
 · rw [List.length_append, List.map_append]; exact g1
 · rcases List.mem_append.1 hd with hd | hd
   · exact hF.2.2 d hd
   · exact hX.2.1 d hd
def nums (s : ByteArray) : List Int := s.data.toList.map fun b => (b.toNat : Int)
theorem run_string {P : Program} {w : World} {v : Value} {zs : List Int} (hB : Bytes w v zs) {src e dst : TypeId} (hs : P.underlying src = some (.slice e)) (he : P.underlying e = some (.int .u8)) (hd : P.underlying dst = some .string) :
 (convert src dst v).run P w = .ok (.string (strOfNums zs)) w := by
 obtain ⟨_, _, ⟨a, cap, rfl, _, rfl⟩ | ⟨b, off, cap, rfl, hc⟩⟩ := hB
 · rw [run_convert_bytes_string w src dst e a 0 cap hs he hd]
   cases a <;> simp [Conv.bytesToString, loadCells]
   all_goals rfl
 · exact run_convert_bytes_arg w src e hs he b off zs.length cap zs rfl hc dst hd
end Go.Proofs.YtnkgakhnlbifdaaGreat
