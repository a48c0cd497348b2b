/- Join: two rows joined, number by number. No law is proved here. -/
import Derived.Test.YtbghdanagahbnaaRowRef
import Derived.Lib.MinMax
import Derived.Laws.MakeOwn
import Derived.Maps.AppendAt
import Derived.Deep.RegionHeld3
import Derived.Deep.DeepCutAuto
namespace Go.Proofs.Ytbghdanagahbnaa
open Go.RowKit Go.Shelf

attribute [local go_sem] Oper.semAt_some

/-- in each place the greater number -/
def tops (l : List (Int × Int)) : List Int := l.map fun x => max x.1 x.2
def joinL (la lb : List Int) : List Int := tops (la.zip lb)
theorem tops_snoc (l : List (Int × Int)) (x : Int × Int) : tops (l ++ [x]) = tops l ++ [max x.1 x.2] := by simp [tops]
theorem tops_length (l : List (Int × Int)) : (tops l).length = l.length := by simp [tops]
theorem joinL_length {la lb : List Int} (h : la.length = lb.length) : (joinL la lb).length = la.length := by simp [joinL, tops, h]
theorem joinL_at {la lb : List Int} (h : la.length = lb.length) {k : Nat} (hk : k < la.length) : (joinL la lb)[k]?.getD 0 = max (la[k]?.getD 0) (lb[k]?.getD 0) := by
  have h2 : k < lb.length := by omega
  have h3 : k < (la.zip lb).length := by rw [List.length_zip]; omega
  simp [joinL, tops, List.getElem?_eq_getElem hk, List.getElem?_eq_getElem h2, List.getElem?_eq_getElem h3]

theorem info_int64 : (Try.prog.info? 2).map (fun i => (i.zero, i.size, i.bytes)) = some (some (.int .i64 0), 1, 8) := by kernel_rfl

/-- both joined, and true -/
def Joined (w : World) (n : Nat) (i u : Int) (l : List Int) (e : Ending) (w' : World) : Prop :=
  ∃ A C, e = .returned (.tuple #[rowV i u (.slice A n C), .bool true]) ∧ Nums w' (.slice A n C) l ∧ Below w.heap.size w w'
/-- none, and false -/
def Apart (w : World) (e : Ending) (w' : World) : Prop := e = .returned (.tuple #[rowV 0 0 (.slice none 0 0), .bool false]) ∧ Below w.heap.size w w'

theorem whole_kept {W : World} {g : Nat} {t : TypeId} {cs : Array Value} (h : Whole W g t cs) {X : World} {row : Option Nat} (hg : W.grownBy X row) (hr : ∀ r, row = some r → ∃ o : Obj, W.heap[r]? = some o ∧ o.isCells = false) : Whole X g t cs :=
  (hg.block g h.lt (fun e' => by obtain ⟨o, ho, hc⟩ := hr g e'.symm; rw [show W.heap[g]? = _ from h] at ho; cases ho; cases hc)).trans h
theorem own_kept {W : World} {base : Nat} {e : TypeId} {size k : Nat} {v : Value} {xs : List Value} (h : W.ownsRow base e size v k xs) {X : World} {row : Option Nat} (hg : W.grownBy X row) (hr : ∀ r, row = some r → ∃ o : Obj, W.heap[r]? = some o ∧ o.isCells = false) : X.ownsRow base e size v k xs := by
  refine h.kept hg ?_
  rcases h.2 with ⟨rfl, _⟩ | ⟨g, cap, cur, rfl, _, hgb, _⟩
  · exact .inl rfl
  · refine .inr fun e' => ?_
    obtain ⟨o, ho, hc⟩ := hr g (by simpa [Value.ownBlock] using e'.symm)
    rw [hgb] at ho; cases ho; cases hc

theorem flat_one (l : List Int) : l.map (Value.int .i64) = flatCells 1 l.length (fun i _ => .int .i64 (l[i]?.getD 0)) := by
  apply List.ext_getElem?
  intro i
  by_cases hi : i < l.length
  · have := flat_at 1 l.length (fun i _ => Value.int .i64 (l[i]?.getD 0)) i 0 hi (by decide)
    rw [Nat.mul_one, Nat.add_zero] at this
    rw [this]
    simp [List.getElem?_eq_getElem hi]
  · rw [List.getElem?_eq_none (by simp; omega), List.getElem?_eq_none (by rw [flat_length]; omega)]
/-- what a row of the call's own reads as -/
theorem nums_of_own {w : World} {base : Nat} {e : TypeId} {n : Nat} {v : Value} {l : List Int} (h : w.ownsRow base e 1 v n (l.map (Value.int .i64))) (hn : n = l.length) (hb : n ≤ 9223372036854775807) :
    ∃ A C, v = .slice A n C ∧ Nums w (.slice A n C) l := by
  subst hn
  rw [flat_one] at h
  obtain ⟨A, C, hv, _, hE⟩ := elems_of_own h hb
  exact ⟨A, C, hv, hE⟩

theorem grownBy_set (W : World) (p : Addr) (v : Value) : W.grownBy (W.setCell p v) (some p.block) :=
  ⟨rfl, rfl, rfl, by simp, fun k _ hk => Below.heap_setCell _ _ _ k (fun e => hk (by rw [e]))⟩
theorem Whole.not_row {W : World} {g : Nat} {t e : TypeId} {cs : Array Value} (h : Whole W g t cs) (hte : t ≠ e) {base size k : Nat} {v : Value} {xs : List Value} (hr : W.ownsRow base e size v k xs) : some g ≠ v.ownBlock := by
  rcases hr.2 with ⟨rfl, _⟩ | ⟨g', cap, cur, rfl, _, hgb, _⟩
  · simp [Value.ownBlock]
  · intro e'
    obtain rfl : g = g' := by simpa [Value.ownBlock] using e'
    have := (show W.heap[g]? = _ from h).symm.trans hgb
    simp at this
    exact hte this.2

/-- 'x.f = append(x.f, ..)', x a variable of the call's own: behind the append and the store -/
theorem row_push {W w1 : World} {n₀ g B : Nat} {t t2 e : TypeId} {x y sv v' u : Value} {k m : Nat} {xs ys : List Value} {tmp : Obj}
    (hw : Whole W g t #[x, y, sv]) (hbx : Boxed W B t2 u) (hte : t ≠ e) (hte2 : t2 ≠ e) (hBg : B ≠ g) (hrow : W.ownsRow n₀ e 1 sv k xs) (hn₀ : n₀ ≤ W.heap.size) (hg : n₀ ≤ g)
    (hown' : w1.ownsRow n₀ e 1 v' m ys) (hgrow : (W.alloc tmp).grownBy w1 sv.ownBlock) :
    Whole w1 g t #[x, y, sv] ∧ Whole (w1.setCell ⟨g, 2, none⟩ v') g t #[x, y, v'] ∧ (w1.setCell ⟨g, 2, none⟩ v').ownsRow n₀ e 1 v' m ys ∧ KeepsOthers W (w1.setCell ⟨g, 2, none⟩ v') ∧
      KeptAt n₀ B W (w1.setCell ⟨g, 2, none⟩ v') ∧ Boxed (w1.setCell ⟨g, 2, none⟩ v') B t2 u := by
  have hw1 : Whole w1 g t #[x, y, sv] := (hgrow.block g (hw.alloc tmp).lt (hw.not_row hte hrow)).trans (hw.alloc tmp)
  have hB1 : Boxed w1 B t2 u := (hbx.alloc tmp).kept hgrow (hbx.not_row hte2 hrow)
  have hB2 : Boxed (w1.setCell ⟨g, 2, none⟩ v') B t2 u := (Below.heap_setCell _ _ _ B hBg).trans hB1
  have hr0 : ∀ j, sv.ownBlock = some j → n₀ ≤ j ∧ ∃ o : Obj, (W.alloc tmp).heap[j]? = some o ∧ o.isCells = true := by
    intro j ej
    rcases (hrow.alloc tmp).2 with ⟨rfl, _⟩ | ⟨g', cap, cur, rfl, hb, hgb, _⟩
    · simp [Value.ownBlock] at ej
    · obtain rfl : g' = j := by simpa [Value.ownBlock] using ej
      exact ⟨hb, _, hgb, rfl⟩
  refine ⟨hw1, by simpa using hw1.set 2 v', hown'.kept (grownBy_set w1 _ v') (.inr (fun e' => hw1.not_row hte hown' e'.symm)), ?_, ⟨?_, ?_⟩, hB2⟩
  · exact ((KeepsOthers.alloc W tmp).trans (KeepsOthers.of_grownBy hgrow fun j o ej hj => by obtain ⟨_, o', ho', hc⟩ := hr0 j ej; rw [ho'] at hj; cases hj; exact hc)).trans (KeepsOthers.setCell _ _ _)
  · exact (((Below.refl n₀ W).alloc hn₀ tmp).grown hgrow (by simp; omega) fun j ej => (hr0 j ej).1).setCell (p := ⟨g, 2, none⟩) hg v'
  · exact (show _ = _ from hB2).trans (show _ = _ from hbx).symm

/-- the row stored over itself, and the rounds' block taken away -/
theorem row_left {w W : World} {n₀ g D : Nat} {t e : TypeId} {x y z : Value} {k : Nat} {xs : List Value} (hw : Whole W g t #[x, y, z]) (hte : t ≠ e) (hrow : W.ownsRow n₀ e 1 z k xs)
    (hK : W.heap[D]? = some (.deferred (some []))) (hB : Below n₀ w W) (hg : n₀ ≤ g) (hn : n₀ ≤ w.heap.size) (hD : n₀ ≤ D) :
    (((W.setCell ⟨g, 0, none⟩ x).setCell ⟨g, 1, none⟩ y).setCell ⟨g, 2, none⟩ z).heap[D]? = some (.deferred (some [])) ∧
    Whole ((((W.setCell ⟨g, 0, none⟩ x).setCell ⟨g, 1, none⟩ y).setCell ⟨g, 2, none⟩ z).putObj D (.deferred none)) g t #[x, y, z] ∧
    ((((W.setCell ⟨g, 0, none⟩ x).setCell ⟨g, 1, none⟩ y).setCell ⟨g, 2, none⟩ z).putObj D (.deferred none)).ownsRow n₀ e 1 z k xs ∧
    Below n₀ w ((((W.setCell ⟨g, 0, none⟩ x).setCell ⟨g, 1, none⟩ y).setCell ⟨g, 2, none⟩ z).putObj D (.deferred none)) := by
  have h1 : Whole (((W.setCell ⟨g, 0, none⟩ x).setCell ⟨g, 1, none⟩ y).setCell ⟨g, 2, none⟩ z) g t #[x, y, z] := by simpa using ((hw.set 0 x).set 1 y).set 2 z
  have hne := hw.not_row hte hrow
  have h2 : (((W.setCell ⟨g, 0, none⟩ x).setCell ⟨g, 1, none⟩ y).setCell ⟨g, 2, none⟩ z).ownsRow n₀ e 1 z k xs :=
    ((hrow.kept (grownBy_set W ⟨g, 0, none⟩ x) (.inr hne.symm)).kept (grownBy_set _ ⟨g, 1, none⟩ y) (.inr hne.symm)).kept (grownBy_set _ ⟨g, 2, none⟩ z) (.inr hne.symm)
  have h3 := (((KeepsOthers.setCell W ⟨g, 0, none⟩ x).trans (KeepsOthers.setCell _ ⟨g, 1, none⟩ y)).trans (KeepsOthers.setCell _ ⟨g, 2, none⟩ z)).same D _ hK rfl
  have h4 : Below n₀ w (((W.setCell ⟨g, 0, none⟩ x).setCell ⟨g, 1, none⟩ y).setCell ⟨g, 2, none⟩ z) := ((hB.setCell hg x).setCell hg y).setCell hg z
  exact ⟨h3, whole_kept h1 (grownBy_putObj' _ D _) (fun r e => by cases e; exact ⟨_, h3, rfl⟩), ownsRow_putObj h2 _ h3 rfl, h4.grown (grownBy_putObj' _ D _) (Nat.le_trans hn h4.size) (fun r e => by cases e; exact hD)⟩

theorem below_made {w : World} {B : Nat} (h : B ≤ w.heap.size) {p q r : Addr} (hp : B ≤ p.block) (hq : B ≤ q.block) (hr : B ≤ r.block) (x y z : Value) (o : Obj) : Below B w ((((w.setCell p x).setCell q y).setCell r z).alloc o).drew :=
  (((((Below.refl _ _).setCell hp x).setCell hq y).setCell hr z).alloc (by simpa using h) o).drew

/-- the new row's block, behind the make and the store -/
theorem made_facts {w : World} {g base n : Nat} {t : TypeId} {c0 c1 c2 : Value} (h : Whole w g t #[c0, c1, c2]) (hb : base ≤ w.heap.size) (x y z : Value) (e : TypeId) (hn : n ≤ maxLen) (hz : z = .slice (some ⟨w.heap.size, 0, none⟩) 0 n) :
    Whole ((((w.setCell ⟨g, 0, none⟩ x).setCell ⟨g, 1, none⟩ y).setCell ⟨g, 2, none⟩ z).alloc (.cells (madeCells #[.int .i64 0] n) e)).drew g t #[x, y, z] ∧
    ((((w.setCell ⟨g, 0, none⟩ x).setCell ⟨g, 1, none⟩ y).setCell ⟨g, 2, none⟩ z).alloc (.cells (madeCells #[.int .i64 0] n) e)).drew.ownsRow base e 1 z 0 [] := by
  refine ⟨((((h.set 0 x).set 1 y).set 2 z).alloc _).drew, ?_⟩
  have hs : (((w.setCell ⟨g, 0, none⟩ x).setCell ⟨g, 1, none⟩ y).setCell ⟨g, 2, none⟩ z).heap.size = w.heap.size := by simp
  have := World.ownsRow_made (base := base) (e := e) (size := 1) (((w.setCell ⟨g, 0, none⟩ x).setCell ⟨g, 1, none⟩ y).setCell ⟨g, 2, none⟩ z) (madeCells #[.int .i64 0] n) n (by rw [hs]; exact hb) hn (by rw [size_madeCells, Nat.mul_one])
  rw [hs, ← hz] at this
  exact this.kept (row := none) ⟨rfl, rfl, rfl, Nat.le_refl _, fun _ _ _ => rfl⟩ (by cases z.ownBlock <;> simp)

set_option maxRecDepth 100000 in
set_option maxHeartbeats 1000000 in
theorem join_loop (a : Option Addr) (n c : Nat) (b : Option Addr) (d : Nat) (i u j v : Int) (la lb : List Int) (hn : n = la.length) (hm : n = lb.length) (w : World) (hA : Nums w (.slice a n c) la) (hB : Nums w (.slice b n d) lb)
    (hle : n ≤ 1000000) : Calls Try.prog 7 #[rowV i u (.slice a n c), rowV j v (.slice b n d)] w (Joined w n (max i j) (max u v) (joinL la lb)) := by
  have hbig : n ≤ 9223372036854775807 := by omega
  have hmk : ∀ w : World, (Instr.makeSlice 22 (.int .i64 0) (.int .i64 (n : Int))).run Try.prog w = .ok (.slice (some ⟨w.heap.size, 0, none⟩) 0 n) (w.alloc (.cells (madeCells #[.int .i64 0] n) 2)) := by
    intro w
    obtain ⟨i0, hi, hz0, hz1, hz2⟩ := info_parts info_int64
    have := run_make (P := Try.prog) w 22 2 i0 (.int .i64 0) Try.underlying22 hi hz0 .i64 .i64 0 (n : Int) (by omega) (by omega) (by rw [hz2]; omega) (by omega)
    simpa [hz1, show (Value.int .i64 0).cells = #[.int .i64 0] from rfl] using this
  have HA := Lib.hid hA; clear hA
  have HB := Lib.hid hB; clear hB
  have Hn := Lib.hid hn; clear hn
  have Hm := Lib.hid hm; clear hm
  have HWA := Lib.hid (((Whole.made w 24 #[.int .i64 i, .int .i64 u, .slice a n c]).alloc (.cells #[.int .i64 j, .int .i64 v, .slice b n d] 24)).alloc (.cells #[.int .i64 0, .int .i64 0, .slice none 0 0] 24))
  have HWB := Lib.hid ((Whole.made2 w (.cells #[.int .i64 i, .int .i64 u, .slice a n c] 24) 24 #[.int .i64 j, .int .i64 v, .slice b n d]).alloc (.cells #[.int .i64 0, .int .i64 0, .slice none 0 0] 24))
  have HWC := Lib.hid (Whole.madeAt ((w.alloc (.cells #[.int .i64 i, .int .i64 u, .slice a n c] 24)).alloc (.cells #[.int .i64 j, .int .i64 v, .slice b n d] 24)) 24 #[.int .i64 0, .int .i64 0, .slice none 0 0] (w.heap.size + 1 + 1) (by simp))
  have Hb3 := Lib.hid ((below_two w (.cells #[.int .i64 i, .int .i64 u, .slice a n c] 24) (.cells #[.int .i64 j, .int .i64 v, .slice b n d] 24)).alloc (by simp; omega) (.cells #[.int .i64 0, .int .i64 0, .slice none 0 0] 24))
  have hs3 : (((w.alloc (.cells #[.int .i64 i, .int .i64 u, .slice a n c] 24)).alloc (.cells #[.int .i64 j, .int .i64 v, .slice b n d] 24)).alloc (.cells #[.int .i64 0, .int .i64 0, .slice none 0 0] 24)).heap.size = w.heap.size + 1 + 1 + 1 := by simp
  refine (callsIn_wide (n := 9)).1 ?_
  refine callsIn_of_wp_marks Try.func7 rfl trivial ?_ rfl
  refine wpIn_wide.2 ?_
  simp only [Try.ntmps7, List.size_toArray, List.length_cons, List.length_nil, Nat.reduceAdd, Nat.reduceSub, Array.replicate_succ, Array.replicate_zero, List.push_toArray, List.append_toArray, List.nil_append, List.cons_append]
  go_upto_region 2 with fail
  generalize ((w.alloc (.cells #[.int .i64 i, .int .i64 u, .slice a n c] 24)).alloc (.cells #[.int .i64 j, .int .i64 v, .slice b n d] 24)).alloc (.cells #[.int .i64 0, .int .i64 0, .slice none 0 0] 24) = w3 at HWA HWB HWC Hb3 hs3 ⊢
  have hlt3 : w.heap.size + 1 + 1 < w3.heap.size := by omega
  have Hs3 := Lib.hid hs3; clear hs3
  obtain ⟨z0, z1, z2⟩ := row_cells HWC.out
  have y0 := HWC.out.free 0
  have y1 := HWC.out.free 1
  have y2 := HWC.out.free 2
  have hn2 : w.heap.size + 1 + 1 ≤ w3.heap.size := by omega
  have KP : Hid (∀ w', Below (w.heap.size + 1 + 1) w3 w' → (
     (w'.cell? ⟨w.heap.size, 0, none⟩ = some (.int .i64 i) ∧ w'.cell? ⟨w.heap.size, 1, none⟩ = some (.int .i64 u) ∧ w'.cell? ⟨w.heap.size, 2, none⟩ = some (.slice a n c)) ∧
     (w'.cell? ⟨w.heap.size + 1, 0, none⟩ = some (.int .i64 j) ∧ w'.cell? ⟨w.heap.size + 1, 1, none⟩ = some (.int .i64 v) ∧ w'.cell? ⟨w.heap.size + 1, 2, none⟩ = some (.slice b n d)))) :=
    fun w' h => ⟨row_cells (HWA.out.later h (by omega)), row_cells (HWB.out.later h (by omega))⟩
  go_cut [28] from 15 to 29 (fun s28 wx => s28 = .slice (some ⟨w3.heap.size, 0, none⟩) 0 n ∧ Hid (Whole wx (w.heap.size + 1 + 1) 24 #[.int .i64 (max i j), .int .i64 (max u v), .slice (some ⟨w3.heap.size, 0, none⟩) 0 n]) ∧
    Hid (wx.ownsRow w.heap.size 2 1 (.slice (some ⟨w3.heap.size, 0, none⟩) 0 n) 0 []) ∧ Hid (Below (w.heap.size + 1 + 1) w3 wx))
  case first =>
    go_region_held3 (fun w' =>
       (w'.cell? ⟨w.heap.size, 0, none⟩ = some (.int .i64 i) ∧ w'.cell? ⟨w.heap.size, 1, none⟩ = some (.int .i64 u) ∧ w'.cell? ⟨w.heap.size, 2, none⟩ = some (.slice a n c)) ∧
       (w'.cell? ⟨w.heap.size + 1, 0, none⟩ = some (.int .i64 j) ∧ w'.cell? ⟨w.heap.size + 1, 1, none⟩ = some (.int .i64 v) ∧ w'.cell? ⟨w.heap.size + 1, 2, none⟩ = some (.slice b n d)))
      (first | exact KP.out _ (Below.refl _ _).drew | exact KP.out _ ((Below.refl _ _).drew.alloc hn2 _) | exact KP.out _ ((Below.refl _ _).alloc hn2 _).drew | exact KP.out _ (below_made hn2 (Nat.le_refl _) (Nat.le_refl _) (Nat.le_refl _) _ _ _ _))
      (first | fail)
    all_goals go_wp2_with fail
    all_goals go_meet
    all_goals exact ⟨rfl, (made_facts HWC.out (by have := Hb3.out.size; omega) _ _ _ _ (by unfold maxLen; omega) rfl).1, (made_facts HWC.out (by have := Hb3.out.size; omega) _ _ _ _ (by unfold maxLen; omega) rfl).2, below_made hn2 (Nat.le_refl _) (Nat.le_refl _) (Nat.le_refl _) _ _ _ _⟩
  case rest =>
    obtain ⟨rfl, HW, HO, Hb⟩ := hcut
    clear z0 z1 z2 y0 y1 y2 KP
    have Hbw := Lib.hid (Hb3.out.trans (Hb.out.mono (by omega)))
    have Hsc := Lib.hid Hb.out.size
    have hsc : w.heap.size + 1 + 1 < wc.heap.size := by have := Hb.out.size; omega
    obtain ⟨a0, a1, a2⟩ := row_cells (HWA.out.later Hb.out (by omega))
    obtain ⟨b0, b1, b2⟩ := row_cells (HWB.out.later Hb.out (by omega))
    have hA5 := HA.out.later Hbw.out
    clear a0 a1 b0 b1 hA5
    go_wp2_with (go_at_call 15; refine (callsIn_wide.1 (pairs_in Fence.wide 9 trivial rfl _ _ _ _ _ _ _)).mono ?_; rintro e w' ⟨rfl, rfl⟩)
    refine (wpIn_wide (n := 9)).1 ?_
    have bA := Boxed.new wc 22 (.slice a n c)
    have bB := Boxed.new (wc.alloc (.cells #[.slice a n c] 22)) 22 (.slice b n d)
    rw [World.size_alloc] at bB
    have hB0 : Below w.heap.size w ((wc.alloc (.cells #[.slice a n c] 22)).alloc (.cells #[.slice b n d] 22)) := (Hbw.out.alloc Hbw.out.size _).alloc (by have := Hbw.out.size; simp; omega) _
    obtain ⟨i0, hi, hz0, hz1, hz2⟩ := info_parts info_int64
    refine wpIn_rangeFunc_ownG (F := Fence.wide) (n := 9) rfl (by decide) (gf := 18) (lb := #[.pointer (some ⟨wc.heap.size, 0, none⟩), .pointer (some ⟨wc.heap.size + 1, 0, none⟩)]) rfl trivial (enters_of Try.func18 (by kernel_rfl) rfl)
      (pairs_stops Fence.wide 8 trivial rfl (by decide) wc.heap.size (wc.heap.size + 1) w a b n c d la lb Hn.out Hm.out HA.out HB.out _ hB0 (bA.alloc _) bB) kept_trans (kept_put (by have := Hbw.out.size; simp; omega) (by simp)) (Below.refl _ _) (fun _ => rfl)
      (fun pre W => ((∃ sv, Whole W (w.heap.size + 1 + 1) 24 #[.int .i64 (max i j), .int .i64 (max u v), sv] ∧ W.ownsRow w.heap.size 2 1 sv pre.length ((tops pre).map (Value.int .i64))) ∧ Boxed W (wc.heap.size + 1) 22 (.slice b n d)) ∧ Below w.heap.size w W)
      (fun _ _ _ => False)
      (OwnFrom.and (Own.from (fun s A B row hs hg hr => ⟨by obtain ⟨⟨sv, h1, h2⟩, _⟩ := hs; exact ⟨sv, whole_kept h1 hg hr, own_kept h2 hg hr⟩, box_kept hs.2 hg hr⟩) _) (ownFrom_below (Nat.le_refl _) (by have := Hbw.out.size; simp; omega)))
      (fun _ _ _ _ _ hs _ _ => hs)
      ⟨⟨⟨_, (HW.out.alloc _).alloc _, (HO.out.alloc _).alloc _⟩, bB⟩, hB0⟩
      ?a1 ?assign ?body ?done ?stop
    case assign =>
      intro l x W K hK
      gi_wp2
      exact hK
    case body =>
      rintro l pre x W ⟨⟨⟨sv, hw, hrow⟩, hbx⟩, hB⟩ hlt
      have c2 : W.cell? ⟨w.heap.size + 1 + 1, 2, none⟩ = some sv := hw.cell 2
      have hlw : w.heap.size + 1 + 1 < W.heap.size := hw.lt
      have hBs := hB.size
      have hlm : pre.length + 1 ≤ maxLen := by unfold maxLen; omega
      gi_wp2_with (gi_at_builtin; refine wpListIn_append_own _ rfl _ _ 22 rfl w.heap.size 2 i0 (.int .i64 0) 1 8 Try.underlying22 hi hz0 hz1 hz2 rfl (by decide) _ _ _ rfl (hrow.alloc _) ⟨W.heap.size, 0, none⟩ 1 1 [.int .i64 (max x.1 x.2)] rfl rfl (cell_one_new _ _ _) (by simp [Value.oneCell']) (by omega) (by omega) (by simp; omega) ?_; intro v' w1 hown' hgrow _; obtain ⟨g', cap', rfl⟩ := ownsRow_succ hown'; obtain ⟨hv1, hv2, hr2, hk2, hb2, hx2⟩ := row_push hw hbx (by decide) (by decide) (by omega) hrow hBs (by omega) hown' hgrow; have hc1 : w1.cell? ⟨w.heap.size + 1 + 1, 2, none⟩ = some sv := hv1.cell 2; have hf1 := hv1.free 2)
      exact ⟨hk2.from _, hb2, ⟨⟨⟨_, hv2, by rw [tops_snoc, List.map_append, List.length_append]; exact hr2⟩, hx2⟩, hB.trans hb2.1⟩⟩
    case done =>
      rintro D ys W hD rfl ⟨⟨⟨sv, hw, hrow⟩, hbx⟩, hB⟩ hK
      have hzl : (la.zip lb).length = n := by rw [List.length_zip, ← Hn.out, ← Hm.out, Nat.min_self]
      rw [hzl] at hrow
      obtain ⟨A, C, rfl, _⟩ := nums_of_own hrow (by rw [tops_length, hzl]) hbig
      have c0 : W.cell? ⟨w.heap.size + 1 + 1, 0, none⟩ = some (.int .i64 (max i j)) := hw.cell 0
      have c1 : W.cell? ⟨w.heap.size + 1 + 1, 1, none⟩ = some (.int .i64 (max u v)) := hw.cell 1
      have c2 : W.cell? ⟨w.heap.size + 1 + 1, 2, none⟩ = some (.slice A n C) := hw.cell 2
      have f0 := hw.free 0
      have f1 := hw.free 1
      have f2 := hw.free 2
      obtain ⟨hK2, hw2, hr2, hb2⟩ := row_left hw (by decide) hrow hK hB (by omega) (Nat.le_refl _) (by have := Hbw.out.size; simp at hD; omega)
      have HK2 := Lib.hid hK2
      have HW2 := Lib.hid hw2
      have HR2 := Lib.hid hr2
      have HB2 := Lib.hid hb2
      have Hz := Lib.hid hzl
      clear hK2 hw2 hr2 hb2 hrow hzl
      go_wp2_with fail
      refine ⟨by simp, .inl ⟨_, _, rfl, run_takeDeferred HK2.out, ?_⟩⟩
      have e0 := HW2.out.cell 0
      have e1 := HW2.out.cell 1
      have e2 := HW2.out.cell 2
      refine ⟨.tuple #[rowV (max i j) (max u v) (.slice A n C), .bool true], ?_, A, C, rfl, ?_, HB2.out⟩
      · simp [results, Try.f7, go_sem, e0, e1, e2]
      · obtain ⟨A', C', hv, hN⟩ := nums_of_own HR2.out (by rw [tops_length, Hz.out]) hbig
        simp only [Value.slice.injEq] at hv
        obtain ⟨rfl, _, rfl⟩ := hv
        exact hN
    case stop =>
      rintro D cd pre W _ _ h _
      exact h.elim

set_option maxHeartbeats 1000000 in
theorem join_no (a : Option Addr) (n c : Nat) (b : Option Addr) (m d : Nat) (i u j v : Int) (w : World) (hne : n ≠ m) :
    Calls Try.prog 7 #[rowV i u (.slice a n c), rowV j v (.slice b m d)] w (Apart w) := by
  have h1' : ((n : Int) != (m : Int)) = true := by simp; omega
  go_enter Try.func7, Try.ntmps7
  go_wp2
  exact bodyPost_ret (v := .tuple #[rowV 0 0 (.slice none 0 0), .bool false]) (by simp [results, Try.results7, go_sem]) rfl ⟨rfl, (below_two w _ _).alloc (by simp; omega) _⟩
end Go.Proofs.Ytbghdanagahbnaa
