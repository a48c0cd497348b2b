/- Layer 16's fixed answers, walked. No law is proved here. -/
import Derived.Test.YtfpadcfahfanoaaMg40
import Derived.Test.YtfpadcfahfanoaaRefMailTake
import Derived.Test.YtfpadcfahfanoaaMg39
import Derived.Test.YtfpadcfahfanoaaMg34
import Derived.Test.YtfpadcfahfanoaaMg2
import Derived.BigRegion
namespace Go.Proofs.Ytfpadcfahfanoaa
open Go.RowKit

abbrev wakeC16 : Cf := ⟨2, 1, 0, 1, 0, 0⟩
abbrev wakeM16 : Ml := ⟨1, 0, 3, [⟨0, 0, [0, 0]⟩, ⟨0, 0, [0, 0]⟩], 0, 0, 0, 0, 0, 0, [(0, 0), (0, 0)]⟩
theorem wake_new : newL wakeC16 = [⟨0, 0, [0, 0]⟩, ⟨0, 0, [0, 0]⟩] := by rfl
theorem wake_bytes16 : mailBytes wakeM16 = [1, 0, 3, 0, 0, 0, 0, 0, 0, 0, 0, 0, 0, 0, 0, 0, 0, 0, 0, 0, 0] := by simp [mailBytes, allN, headN, tailN, echoN, flatR, rowN, bytesN, u64n, PackMath.num_lt]
theorem wake_may16 : mailOk wakeC16 wakeM16 := of_decide_eq_true (show decide (mailOk wakeC16 wakeM16) = true by decide +kernel)
theorem wake_take16 : takeM wakeC16 [1, 0, 3, 0, 0, 0, 0, 0, 0, 0, 0, 0, 0, 0, 0, 0, 0, 0, 0, 0, 0] = some wakeM16 := takeM_yes ⟨wake_may16, wake_bytes16.symm⟩
/-- bytes with more behind them are none's -/
theorem takeM_behind {c : Cf} {x : Ml} {r : List Int} (h : mailOk c x) (hr : r ≠ []) : takeM c (mailBytes x ++ r) = none := takeM_no fun y hy => by
  have e := (mail_unique h hy.1 (r := r) (r' := []) (by rw [List.append_nil]; exact hy.2)).2
  exact hr e
theorem wake_none16 : takeM wakeC16 ([1, 0, 3, 0, 0, 0, 0, 0, 0, 0, 0, 0, 0, 0, 0, 0, 0, 0, 0, 0, 0] ++ [0]) = none := by
  rw [← wake_bytes16]
  exact takeM_behind wake_may16 (by decide)
/-- bytes cut short are none's -/
theorem takeM_cut {c : Cf} {x : Ml} {k : Nat} (h : mailOk c x) (hk : k < (mailBytes x).length) : takeM c ((mailBytes x).take k) = none := takeM_no fun y hy => by
  have e := (mail_unique h hy.1 (r := []) (r' := (mailBytes x).drop k) (by rw [List.append_nil, ← hy.2, List.take_append_drop])).2
  have := congrArg List.length e
  rw [List.length_drop, List.length_nil] at this
  omega
theorem OwnBooks.set_low {w : World} {base : Nat} {v : Value} {l : List Rw} (h : OwnBooks w base v l) {p : Addr} (hp : p.block < base) (u : Value) : OwnBooks (w.setCell p u) base v l := by
  obtain ⟨g, h1, h2, h3⟩ := h
  exact ⟨g, h1.kept (grownBy_set w p u) (.inr fun e => by have := (h1.lt _ e).1; omega), fun k hk => ⟨(h2 k hk).1, (h2 k hk).2.kept (grownBy_set w p u) (.inr fun e => by have := ((h2 k hk).2.lt _ e).1; omega)⟩, h3⟩
theorem OwnBooks.ml11 {w : World} {base : Nat} {v : Value} {l : List Rw} (h : OwnBooks w base v l) {g : Nat} (hg : g < base) (x : Ml) (rv ev : Value) : OwnBooks (ml11 w g x rv ev) base v l :=
  ((((((((((h.set_low (p := ⟨g, 0, none⟩) hg _).set_low (p := ⟨g, 1, none⟩) hg _).set_low (p := ⟨g, 2, none⟩) hg _).set_low (p := ⟨g, 3, none⟩) hg _).set_low (p := ⟨g, 4, none⟩) hg _).set_low (p := ⟨g, 5, none⟩) hg _).set_low (p := ⟨g, 6, none⟩) hg _).set_low (p := ⟨g, 7, none⟩) hg _).set_low (p := ⟨g, 8, none⟩) hg _).set_low (p := ⟨g, 9, none⟩) hg _).set_low (p := ⟨g, 10, none⟩) hg _
/-- what a box g doesn't touch: made ahead of it, or behind it -/
def AptB (w : World) (o : Bool) (g : Nat) (v : Value) (l : List Rw) : Prop := (∃ w0, Books w0 v l ∧ Below w0.heap.size w0 w ∧ (o = true → w0.heap.size ≤ g)) ∨ (o = true ∧ Books w v l ∧ ∃ B, g < B ∧ OwnBooks w B v l)
theorem AptB.books {w : World} {o : Bool} {g : Nat} {v : Value} {l : List Rw} (h : AptB w o g v l) : Books w v l := by
  rcases h with ⟨w0, h1, h2, _⟩ | ⟨_, h, _⟩
  · exact h1.later h2
  · exact h
theorem AptB.later {w w' : World} {o : Bool} {g : Nat} {v : Value} {l : List Rw} (h : AptB w o g v l) (hb : Below w.heap.size w w') : AptB w' o g v l := by
  rcases h with ⟨w0, h1, h2, h3⟩ | ⟨h1, h2, B, h3, h4⟩
  · exact Or.inl ⟨w0, h1, held_next h2 hb, h3⟩
  · exact Or.inr ⟨h1, h2.later hb, B, h3, h4.later hb⟩
theorem AptB.boxed {w w' : World} {o : Bool} {g : Nat} {v : Value} {l : List Rw} (h : AptB w o g v l) (ho : o = false) (hb : Below w.heap.size w w') : AptB w' true w.heap.size v l := by
  rcases h with ⟨w0, h1, h2, h3⟩ | ⟨h1, _⟩
  · exact Or.inl ⟨w0, h1, held_next h2 hb, fun _ => h2.size⟩
  · exact absurd (h1.symm.trans ho) (by decide)
theorem AptB.written {w : World} {g n : Nat} {A : Option Addr} {C : Nat} {l : List Rw} (h : AptB w true g (.slice A n C) l) (hb : l.length ≤ 1000) (hl : ∀ k, k < l.length → (at_ l k).out.length ≤ 1000) (x : Ml) (rv ev : Value) : Books (ml11 w g x rv ev) (.slice A n C) l := by
  rcases h with ⟨w0, h1, h2, h3⟩ | ⟨h1, h2, B, h3, h4⟩
  · exact h1.later (ml11_below h2 (h3 rfl))
  · obtain ⟨A', C', e, h5⟩ := (h4.ml11 h3 x rv ev).books (by omega) (fun k hk => by have := hl k hk; omega)
    rw [e]; exact h5
theorem AptB.made {w : World} {o : Bool} {g B : Nat} {v : Value} {l : List Rw} (h : Books w v l) (hO : OwnBooks w B v l) (hg : o = true → g < B) : AptB w o g v l := by
  cases o with
  | false => exact Or.inl ⟨w, h, Below.refl _ _, fun h => Bool.noConfusion h⟩
  | true => exact Or.inr ⟨rfl, h, B, hg rfl, hO⟩
theorem looks_zero {w : World} {m g : Nat} (hm : m ≤ 1000) (h : Whole w g 32 (madeCells #[.int .i64 0, .int .i64 0] (m * 2))) : Looks w (.slice (some ⟨g, 0, none⟩) m m) (List.replicate m ((0, 0) : Int × Int)) := by
  refine ⟨by rw [List.length_replicate]; omega, Or.inr ⟨g, 0, m, by rw [List.length_replicate], by rw [List.length_replicate]; exact Nat.le_refl _, fun i j hi hj => ?_⟩⟩
  rw [List.length_replicate] at hi
  rw [h.cell, Nat.zero_add, made_look (by omega)]
  have e : lkAt (List.replicate m ((0, 0) : Int × Int)) i = (0, 0) := by unfold lkAt; rw [List.getElem?_replicate, if_pos hi]; rfl
  show _ = some (lkc (lkAt (List.replicate m ((0, 0) : Int × Int)) i) j)
  rw [e]
  unfold lkc
  split <;> rfl
attribute [local go_sem ↓] run_fine
set_option maxRecDepth 100000 in
set_option maxHeartbeats 8000000 in
theorem awake16 (w : World) : Calls Try.prog 6 #[] w (Says w true) := by
  have hmk : ∀ w : World, (Instr.makeSlice 33 (.int .i64 2) (.int .i64 2)).run Try.prog w = .ok (.slice (some ⟨w.heap.size, 0, none⟩) 2 2) (w.alloc (.cells (madeCells #[.int .i64 0, .int .i64 0] 4) 32)) := fun w => run_make_looks (m := 2) (by omega)
  go_enter Try.func6, Try.ntmps6
  go_wp2_with fail
  have HW0 := Lib.hid (Whole.made w 23 (cfCells wakeC16))
  have Hb00 := Lib.hid (below_box w (.cells (cfCells wakeC16) 23))
  show Code.wp _ _ _ _ (w.alloc (.cells (cfCells wakeC16) 23))
  obtain ⟨W1, hW1⟩ : ∃ z, w.alloc (.cells (cfCells wakeC16) 23) = z := ⟨_, rfl⟩
  rw [hW1] at HW0 Hb00 ⊢
  have HW : Hid (Whole W1 w.heap.size 23 (cfCells wakeC16)) := HW0
  have Hb0 : Hid (Below w.heap.size w W1) := Hb00
  clear hW1 HW0 Hb00
  refine wp_region_each_at ?hm ?hb (fun a0 d a' w' => ∃ (e0 e1 e2 e3 e4 : Value) (A1 : Option Addr) (C1 g2 gb : Nat), a' = putAll a0 [(9, e0), (10, e1), (11, e2), (12, e3), (2, e4)] ∧ Below W1.heap.size W1 w' ∧ (d 0 = true → e0 = (cfV wakeC16)) ∧ (d 1 = true → (e1 = .slice A1 2 C1 ∧ (d 5 = false → AptB w' (d 4) gb (.slice A1 2 C1) wakeM16.rows))) ∧ (d 2 = true → (e2 = .slice (some ⟨g2, 0, none⟩) 2 2 ∧ (d 5 = false → Looks w' (.slice (some ⟨g2, 0, none⟩) 2 2) [(0, 0), (0, 0)] ∧ (d 4 = true → g2 ≠ gb) ∧ g2 < w'.heap.size))) ∧ (d 3 = true → (d 1 = true ∧ d 2 = true ∧ e3 = mlV wakeM16 (.slice A1 2 C1) (.slice (some ⟨g2, 0, none⟩) 2 2))) ∧ (d 4 = true → (e4 = .pointer (some ⟨gb, 0, none⟩) ∧ W1.heap.size ≤ gb ∧ gb < w'.heap.size ∧ (d 5 = false → Whole w' gb 35 (mlCells ml0 (.slice none 0 0) (.slice none 0 0))))) ∧ (d 5 = true → (d 3 = true ∧ d 4 = true ∧ Whole w' gb 35 (mlCells wakeM16 (.slice A1 2 C1) (.slice (some ⟨g2, 0, none⟩) 2 2)) ∧ MailIn w' A1 2 C1 (some ⟨g2, 0, none⟩) 2 2 wakeM16))) ?h0 ?step ?ends
  case hm => kernel_rfl
  case hb => kernel_rfl
  case h0 =>
    refine ⟨undef, undef, undef, undef, undef, none, 0, 0, 0, ?_, (Below.refl _ _).drew, fun h => absurd h (by decide), fun h => absurd h (by decide), fun h => absurd h (by decide), fun h => absurd h (by decide), fun h => absurd h (by decide), fun h => absurd h (by decide)⟩
    simp only [putAll, Act.put, List.setIfInBounds_toArray, List.set_cons_zero, List.set_cons_succ]
  case step =>
    intro i d a' w' hi hJ hd hk
    obtain ⟨e0, e1, e2, e3, e4, A1, C1, g2, gb, rfl, hB, c0, c1, c2, c3, c4, c5⟩ := hJ
    match i, hi, hd, hk with
    | 0, _, hd, hk =>
      obtain ⟨z0, z1, z2, z3, z4, z5⟩ := config_cells (HW.out.later hB HW.out.lt)
      simp only at z0 z1 z2 z3 z4 z5
      apply wpOp_at
      case ho => rfl
      intro K hK
      simp only [putAll, Act.put, List.setIfInBounds_toArray, List.set_cons_zero, List.set_cons_succ]
      go_simp
      refine hK _ _ ⟨(cfV wakeC16), e1, e2, e3, e4, A1, C1, g2, gb, ?_, hB, fun _ => rfl, c1, c2, c3, c4, c5⟩
      simp only [putAll, Act.put, List.setIfInBounds_toArray, List.set_cons_zero, List.set_cons_succ]
      all_goals rfl
    | 1, _, hd, hk =>
      have h0 : d 0 = true := hk 0 (by decide +kernel)
      obtain rfl := c0 h0
      apply wpOp_at
      case ho => rfl
      intro K hK
      simp only [putAll, Act.put, List.setIfInBounds_toArray, List.set_cons_zero, List.set_cons_succ]
      go_simp
      refine (refnew_calls wakeC16 w').mono ?_
      rw [wake_new]
      rintro e w'' ⟨A, C, rfl, hO, hb⟩
      have hbk : Books w'' (.slice A 2 C) wakeM16.rows := by
            obtain ⟨A', C', ee, h5⟩ := hO.books (by decide) (fun k hk => by match k, hk with | 0, _ => decide | 1, _ => decide)
            have e2 : Value.slice A 2 C = Value.slice A' 2 C' := ee
            rw [e2]; exact h5
      refine hK _ _ ⟨(cfV wakeC16), .slice A 2 C, e2, e3, e4, A, C, g2, gb, ?_, hB.trans (hb.mono hB.size), c0, fun _ => ⟨rfl, fun _ => AptB.made hbk hO (fun h => (c4 h).2.2.1)⟩, fun h => ⟨(c2 h).1, fun h5 => ⟨((c2 h).2 h5).1.later hb, ((c2 h).2 h5).2.1, Nat.lt_of_lt_of_le ((c2 h).2 h5).2.2 hb.size⟩⟩, fun h => Bool.noConfusion (hd.symm.trans (c3 h).1), fun h => ⟨(c4 h).1, (c4 h).2.1, Nat.lt_of_lt_of_le (c4 h).2.2.1 hb.size, fun h2 => ((c4 h).2.2.2 h2).later hb (c4 h).2.2.1⟩, fun h => Bool.noConfusion (hd.symm.trans (c3 (c5 h).1).1)⟩
      simp only [putAll, Act.put, List.setIfInBounds_toArray, List.set_cons_zero, List.set_cons_succ]
      all_goals rfl
    | 2, _, hd, hk =>
      have hb := below_box w' (.cells (madeCells #[.int .i64 0, .int .i64 0] 4) 32)
      have hlk : Looks (w'.alloc (.cells (madeCells #[.int .i64 0, .int .i64 0] 4) 32)) (.slice (some ⟨w'.heap.size, 0, none⟩) 2 2) [(0, 0), (0, 0)] := looks_zero (m := 2) (by decide) (Whole.made w' _ _)
      apply wpOp_at
      case ho => rfl
      intro K hK
      simp only [putAll, Act.put, List.setIfInBounds_toArray, List.set_cons_zero, List.set_cons_succ]
      go_simp
      refine hK _ _ ⟨e0, e1, .slice (some ⟨w'.heap.size, 0, none⟩) 2 2, e3, e4, A1, C1, w'.heap.size, gb, ?_, hB.trans (hb.mono hB.size), c0, fun h => ⟨(c1 h).1, fun h5 => ((c1 h).2 h5).later hb⟩, fun _ => ⟨rfl, fun _ => ⟨hlk, fun h => by have := (c4 h).2.2.1; omega, by simp⟩⟩, fun h => Bool.noConfusion (hd.symm.trans (c3 h).2.1), fun h => ⟨(c4 h).1, (c4 h).2.1, Nat.lt_of_lt_of_le (c4 h).2.2.1 hb.size, fun h2 => ((c4 h).2.2.2 h2).later hb (c4 h).2.2.1⟩, fun h => Bool.noConfusion (hd.symm.trans (c3 (c5 h).1).2.1)⟩
      simp only [putAll, Act.put, List.setIfInBounds_toArray, List.set_cons_zero, List.set_cons_succ]
      all_goals rfl
    | 3, _, hd, hk =>
      have h1 : d 1 = true := hk 1 (by decide +kernel)
      have h2 : d 2 = true := hk 2 (by decide +kernel)
      obtain ⟨rfl, hp1⟩ := c1 h1
      obtain ⟨rfl, hp2⟩ := c2 h2
      apply wpOp_at
      case ho => rfl
      intro K hK
      simp only [putAll, Act.put, List.setIfInBounds_toArray, List.set_cons_zero, List.set_cons_succ]
      go_simp
      refine hK _ _ ⟨e0, .slice A1 2 C1, .slice (some ⟨g2, 0, none⟩) 2 2, mlV wakeM16 (.slice A1 2 C1) (.slice (some ⟨g2, 0, none⟩) 2 2), e4, A1, C1, g2, gb, ?_, hB, c0, fun _ => ⟨rfl, hp1⟩, fun _ => ⟨rfl, hp2⟩, fun _ => ⟨h1, h2, rfl⟩, c4, fun h => Bool.noConfusion (hd.symm.trans (c5 h).1)⟩
      simp only [putAll, Act.put, List.setIfInBounds_toArray, List.set_cons_zero, List.set_cons_succ]
      all_goals rfl
    | 4, _, hd, hk =>
      have hb := below_box w' (.cells (mlCells ml0 (.slice none 0 0) (.slice none 0 0)) 35)
      apply wpOp_at
      case ho => rfl
      intro K hK
      simp only [putAll, Act.put, List.setIfInBounds_toArray, List.set_cons_zero, List.set_cons_succ]
      go_simp
      refine hK _ _ ⟨e0, e1, e2, e3, .pointer (some ⟨w'.heap.size, 0, none⟩), A1, C1, g2, w'.heap.size, ?_, hB.trans (hb.mono hB.size), c0, fun h => ⟨(c1 h).1, fun h5 => ((c1 h).2 h5).boxed hd hb⟩, fun h => ⟨(c2 h).1, fun h5 => ⟨((c2 h).2 h5).1.later hb, fun _ => by have := ((c2 h).2 h5).2.2; omega, Nat.lt_of_lt_of_le ((c2 h).2 h5).2.2 hb.size⟩⟩, c3, fun _ => ⟨rfl, hB.size, by simp, fun _ => Whole.made w' _ _⟩, fun h => Bool.noConfusion (hd.symm.trans (c5 h).2.1)⟩
      simp only [putAll, Act.put, List.setIfInBounds_toArray, List.set_cons_zero, List.set_cons_succ]
      all_goals rfl
    | 5, _, hd, hk =>
      have h3 : d 3 = true := hk 3 (by decide +kernel)
      have h4 : d 4 = true := hk 4 (by decide +kernel)
      obtain ⟨h1, h2, rfl⟩ := c3 h3
      obtain ⟨rfl, hp1⟩ := c1 h1
      obtain ⟨rfl, hp2⟩ := c2 h2
      obtain ⟨rfl, hgb, hgl, hw0⟩ := c4 h4
      have hZ := hw0 hd
      have y0 := hZ.free 0
      have y1 := hZ.free 1
      have y2 := hZ.free 2
      have y3 := hZ.free 3
      have y4 := hZ.free 4
      have y5 := hZ.free 5
      have y6 := hZ.free 6
      have y7 := hZ.free 7
      have y8 := hZ.free 8
      have y9 := hZ.free 9
      have y10 := hZ.free 10
      obtain ⟨⟨z0, z1, z2, z3⟩, ⟨z4, z5, z6, z7⟩, z8, z9, z10⟩ := ml_cells' hZ
      have hA := hp1 hd
      rw [h4] at hA
      have hbk2 := hA.written (by decide) (fun k hk => by match k, hk with | 0, _ => decide | 1, _ => decide) wakeM16 (.slice A1 2 C1) (.slice (some ⟨g2, 0, none⟩) 2 2)
      have hlk2 : Looks (ml11 w' gb wakeM16 (.slice A1 2 C1) (.slice (some ⟨g2, 0, none⟩) 2 2)) (.slice (some ⟨g2, 0, none⟩) 2 2) [(0, 0), (0, 0)] := ml11_elems (hp2 hd).1 (fun ad had => by cases had; exact (hp2 hd).2.1 h4)
      have hwh := ml11_whole (x := wakeM16) (rv := .slice A1 2 C1) (ev := .slice (some ⟨g2, 0, none⟩) 2 2) hZ
      apply wpOp_at
      case ho => rfl
      intro K hK
      simp only [putAll, Act.put, List.setIfInBounds_toArray, List.set_cons_zero, List.set_cons_succ]
      go_simp
      refine hK _ _ ⟨e0, .slice A1 2 C1, .slice (some ⟨g2, 0, none⟩) 2 2, mlV wakeM16 (.slice A1 2 C1) (.slice (some ⟨g2, 0, none⟩) 2 2), .pointer (some ⟨gb, 0, none⟩), A1, C1, g2, gb, ?_, ml11_below (g := gb) (x := wakeM16) (rv := .slice A1 2 C1) (ev := .slice (some ⟨g2, 0, none⟩) 2 2) hB hgb, c0, fun _ => ⟨rfl, fun h => Bool.noConfusion (show true = false from h)⟩, fun _ => ⟨rfl, fun h => Bool.noConfusion (show true = false from h)⟩, c3, fun _ => ⟨rfl, hgb, Nat.lt_of_lt_of_le hgl (ml11_below (g := gb) (x := wakeM16) (rv := .slice A1 2 C1) (ev := .slice (some ⟨g2, 0, none⟩) 2 2) (Below.refl gb w') (Nat.le_refl _)).size, fun h => Bool.noConfusion (show true = false from h)⟩, fun _ => ⟨h3, h4, hwh, rfl, hbk2, rfl, hlk2⟩⟩
      simp only [putAll, Act.put, List.setIfInBounds_toArray, List.set_cons_zero, List.set_cons_succ]
      all_goals rfl
    | k + 6, hi, _, _ => exact absurd hi (by simp)
  case ends =>
    intro d a' w2 hJ hall
    obtain ⟨e0, e1, e2, e3, e4, A1, C1, g2, gb, rfl, hB, c0, c1, c2, c3, c4, c5⟩ := hJ
    obtain ⟨h3, h4, hX, hM⟩ := c5 (hall 5 (by decide +kernel))
    obtain ⟨h1, h2, rfl⟩ := c3 h3
    obtain ⟨rfl, _⟩ := c1 h1
    obtain ⟨rfl, _⟩ := c2 h2
    obtain rfl := c0 (hall 0 (by decide +kernel))
    obtain ⟨rfl, _⟩ := c4 h4
    have HX2 := Lib.hid hX
    have HM2 := Lib.hid hM
    have Hb2 := Lib.hid (held_next Hb0.out hB)
    have HW2 := Lib.hid (HW.out.later hB HW.out.lt)
    clear c0 c1 c2 c3 c4 c5 hall hX hM hB h1 h2 h3 h4 HW Hb0
    simp only [putAll, Act.put, List.setIfInBounds_toArray, List.set_cons_zero, List.set_cons_succ]
    obtain ⟨⟨z0, z1, z2, z3⟩, ⟨z4, z5, z6, z7⟩, z8, z9, z10⟩ := ml_cells' HX2.out
    go_wp2_with fail
    refine (mPut_calls wakeM16 A1 2 C1 (some ⟨g2, 0, none⟩) 2 2 _ HM2.out (by decide)).mono ?_
    rw [wake_bytes16]
    rintro e w3 ⟨v, rfl, hb, hF⟩
    have hby := hF.bytes
    obtain ⟨g8, C8, hv8, h8B, h8l, h8C, _⟩ := hF.form
    subst hv8
    have HF3 := Lib.hid hF
    have HBy3 := Lib.hid hby
    have Hb3 := Lib.hid (held_next Hb2.out hb)
    have Hb23 := Lib.hid hb
    have HW3 := Lib.hid (HW2.out.later hb HW2.out.lt)
    clear hb hF hby z0 z1 z2 z3 z4 z5 z6 z7 z8 z9 z10
    obtain ⟨d0, d1, d2, d3, d4, d5⟩ := config_cells HW3.out
    simp only at d0 d1 d2 d3 d4 d5
    have H8 : Hid (([1, 0, 3, 0, 0, 0, 0, 0, 0, 0, 0, 0, 0, 0, 0, 0, 0, 0, 0, 0, 0] : List Int).length = 21) := rfl
    rw [H8.out] at HF3 HBy3 h8C ⊢
    go_wp2_with fail
    refine (mTake_calls wakeC16 (some ⟨g8, 0, none⟩) 21 C8 [1, 0, 3, 0, 0, 0, 0, 0, 0, 0, 0, 0, 0, 0, 0, 0, 0, 0, 0, 0, 0] _ HBy3.out rfl h8C).mono ?_
    rw [wake_take16]
    rintro e w4 ⟨a1, m1, c1, a2, m2, c2, rfl, _, hb⟩
    clear d0 d1 d2 d3 d4 d5
    go_wp2_with fail
    have hb4 := below_box w4 (.cells (mlCells wakeM16 (.slice a1 m1 c1) (.slice a2 m2 c2)) 35)
    have hK := Whole.made w4 35 (mlCells wakeM16 (.slice a1 m1 c1) (.slice a2 m2 c2))
    show Code.wp _ _ _ _ (w4.alloc (.cells (mlCells wakeM16 (.slice a1 m1 c1) (.slice a2 m2 c2)) 35))
    obtain ⟨g4, hg4⟩ : ∃ z, w4.heap.size = z := ⟨_, rfl⟩
    have hb45 := hb.trans (hb4.mono hb.size)
    obtain ⟨w5, hw5⟩ : ∃ z, w4.alloc (.cells (mlCells wakeM16 (.slice a1 m1 c1) (.slice a2 m2 c2)) 35) = z := ⟨_, rfl⟩
    rw [hw5] at hK hb45 ⊢
    have hgl : w4.heap.size < w5.heap.size := hK.lt
    rw [hg4] at hK hgl ⊢
    have HK := Lib.hid hK
    have H35 := Lib.hid hb45
    have HF5 := Lib.hid (HF3.out.later hb45)
    have HBy5 := Lib.hid (HBy3.out.later hb45)
    have h8g : g8 ≠ g4 := by have := hb.size; omega
    have Hb25 := Lib.hid (Hb23.out.trans (hb45.mono Hb23.out.size))
    have Hsz := Lib.hid (show w3.heap.size ≤ w5.heap.size from hb45.size)
    clear hb hb4 hK hb45 hw5 hg4
    refine wp_region_each_at ?hm ?hb (fun a0 d a' w' => ∃ (e0 e1 e2 e3 e4 e5 e6 e7 e8 e10 : Value) (p1 p4 : Option Addr) (p2 p3 p5 p6 gb : Nat), a' = putAll a0 [(22, e0), (23, e1), (24, e2), (25, e3), (26, e4), (21, e5), (27, e6), (28, e7), (6, e8), (7, e10)] ∧ Below w2.heap.size w2 w' ∧ (d 0 = true → e0 = (cfV wakeC16)) ∧ (d 1 = true → e1 = (.slice (some ⟨g8, 0, none⟩) 21 C8)) ∧ (d 2 = true → (d 3 = false → ∃ h0, e2 = .slice (some ⟨h0, 0, none⟩) 1 1 ∧ Whole w' h0 5 #[.int .u8 0])) ∧ (d 3 = true → (d 2 = true ∧ (d 4 = false → ∃ A C, e3 = .slice A 22 C ∧ Bytes w' (.slice A 22 C) ([1, 0, 3, 0, 0, 0, 0, 0, 0, 0, 0, 0, 0, 0, 0, 0, 0, 0, 0, 0, 0] ++ [0]) ∧ 22 ≤ C))) ∧ (d 4 = true → (d 3 = true ∧ e4 = .tuple #[mlV ml0 (.slice p1 p2 p3) (.slice p4 p5 p6), .bool false])) ∧ (d 5 = true → (d 4 = true ∧ e5 = .tuple #[mlV ml0 (.slice p1 p2 p3) (.slice p4 p5 p6), .bool false])) ∧ (d 6 = true → (d 4 = true ∧ e6 = mlV ml0 (.slice p1 p2 p3) (.slice p4 p5 p6))) ∧ (d 7 = true → (e7 = .bool false)) ∧ (d 8 = true → (e8 = .pointer (some ⟨gb, 0, none⟩) ∧ w5.heap.size ≤ gb ∧ gb < w'.heap.size ∧ (d 9 = false → Whole w' gb 35 (mlCells ml0 (.slice none 0 0) (.slice none 0 0))))) ∧ (d 9 = true → (d 3 = true ∧ d 8 = true ∧ d 4 = true)) ∧ (d 10 = true → (e10 = .bool false)) ∧ Whole w' g4 35 (mlCells wakeM16 (.slice a1 m1 c1) (.slice a2 m2 c2)) ∧ Bytes w' (.slice (some ⟨g8, 0, none⟩) 21 C8) [1, 0, 3, 0, 0, 0, 0, 0, 0, 0, 0, 0, 0, 0, 0, 0, 0, 0, 0, 0, 0] ∧ (d 3 = false → Fresh w2.heap.size 5 w' (.slice (some ⟨g8, 0, none⟩) 21 C8) [1, 0, 3, 0, 0, 0, 0, 0, 0, 0, 0, 0, 0, 0, 0, 0, 0, 0, 0, 0, 0]) ∧ w5.heap.size ≤ w'.heap.size) ?h0 ?step ?ends
    case hm => kernel_rfl
    case hb => kernel_rfl
    case h0 =>
      refine ⟨undef, undef, undef, undef, undef, undef, undef, undef, undef, undef, none, none, 0, 0, 0, 0, 0, ?_, Hb25.out.drew, fun h => absurd h (by decide), fun h => absurd h (by decide), fun h => absurd h (by decide), fun h => absurd h (by decide), fun h => absurd h (by decide), fun h => absurd h (by decide), fun h => absurd h (by decide), fun h => absurd h (by decide), fun h => absurd h (by decide), fun h => absurd h (by decide), fun h => absurd h (by decide), HK.out.drew, HBy5.out.later (Below.refl _ _).drew, fun _ => HF5.out.later (Below.refl _ _).drew, Nat.le_refl _⟩
      simp only [putAll, Act.put, List.setIfInBounds_toArray, List.set_cons_zero, List.set_cons_succ]
    case step =>
      intro i d a' w' hi hJ hd hk
      obtain ⟨e0, e1, e2, e3, e4, e5, e6, e7, e8, e10, p1, p4, p2, p3, p5, p6, gb, rfl, hB, c0, c1, c2, c3, c4, c5, c6, c7, c8, c9, c10, ck, cb, co, cz⟩ := hJ
      match i, hi, hd, hk with
      | 0, _, hd, hk =>
        obtain ⟨z0, z1, z2, z3, z4, z5⟩ := config_cells (HW2.out.later hB HW2.out.lt)
        simp only at z0 z1 z2 z3 z4 z5
        apply wpOp_at
        case ho => rfl
        intro K hK
        simp only [putAll, Act.put, List.setIfInBounds_toArray, List.set_cons_zero, List.set_cons_succ]
        go_simp
        refine hK _ _ ⟨(cfV wakeC16), e1, e2, e3, e4, e5, e6, e7, e8, e10, p1, p4, p2, p3, p5, p6, gb, ?_, hB, fun _ => rfl, c1, c2, c3, c4, c5, c6, c7, c8, c9, c10, ck, cb, co, cz⟩
        simp only [putAll, Act.put, List.setIfInBounds_toArray, List.set_cons_zero, List.set_cons_succ]
        all_goals rfl
      | 1, _, hd, hk =>
        apply wpOp_at
        case ho => rfl
        intro K hK
        simp only [putAll, Act.put, List.setIfInBounds_toArray, List.set_cons_zero, List.set_cons_succ]
        go_simp
        refine hK _ _ ⟨e0, (.slice (some ⟨g8, 0, none⟩) 21 C8), e2, e3, e4, e5, e6, e7, e8, e10, p1, p4, p2, p3, p5, p6, gb, ?_, hB, c0, fun _ => rfl, c2, c3, c4, c5, c6, c7, c8, c9, c10, ck, cb, co, cz⟩
        simp only [putAll, Act.put, List.setIfInBounds_toArray, List.set_cons_zero, List.set_cons_succ]
        all_goals rfl
      | 2, _, hd, hk =>
        have hb := below_box w' (.cells #[.int .u8 0] 5)
        apply wpOp_at
        case ho => rfl
        intro K hK
        simp only [putAll, Act.put, List.setIfInBounds_toArray, List.set_cons_zero, List.set_cons_succ]
        go_simp
        refine hK _ _ ⟨e0, e1, .slice (some ⟨w'.heap.size, 0, none⟩) 1 1, e3, e4, e5, e6, e7, e8, e10, p1, p4, p2, p3, p5, p6, gb, ?_, hB.trans (hb.mono hB.size), c0, c1, fun _ => fun _ => ⟨_, rfl, Whole.made w' _ _⟩, fun h => Bool.noConfusion (hd.symm.trans (c3 h).1), c4, c5, c6, c7, fun h => ⟨(c8 h).1, (c8 h).2.1, Nat.lt_of_lt_of_le (c8 h).2.2.1 hb.size, fun h2 => ((c8 h).2.2.2 h2).later hb (c8 h).2.2.1⟩, c9, c10, ck.later hb ck.lt, cb.later hb, fun h => (co h).later hb, Nat.le_trans cz hb.size⟩
        simp only [putAll, Act.put, List.setIfInBounds_toArray, List.set_cons_zero, List.set_cons_succ]
        all_goals rfl
      | 3, _, hd, hk =>
        have h1 : d 1 = true := hk 1 (by decide +kernel)
        have h2 : d 2 = true := hk 2 (by decide +kernel)
        obtain rfl := c1 h1
        obtain ⟨h0, rfl, hw⟩ := c2 h2 hd
        have hst := append_still (co hd) rfl h8C (y := 0) (by decide) hB.size (hw.cell 0) (by decide) (c := 1)
        rw [show 21 + 1 = 22 from rfl] at hst
        obtain ⟨A9, C9, w9, hrun, q1, q2, q3, q4, q5, q6⟩ := hst
        obtain ⟨hfine, happV, happW⟩ := fine_of hrun
        clear hrun
        apply wpOp_at
        case ho => rfl
        intro K hK
        simp only [putAll, Act.put, List.setIfInBounds_toArray, List.set_cons_zero, List.set_cons_succ]
        go_simp
        refine hK _ _ ⟨e0, (.slice (some ⟨g8, 0, none⟩) 21 C8), .slice (some ⟨h0, 0, none⟩) 1 1, .slice A9 22 C9, e4, e5, e6, e7, e8, e10, p1, p4, p2, p3, p5, p6, gb, ?_, hB.trans q4, c0, c1, fun _ h => Bool.noConfusion (show true = false from h), fun _ => ⟨h2, fun _ => ⟨A9, C9, rfl, q1, q2⟩⟩, fun h => Bool.noConfusion (hd.symm.trans (c4 h).1), c5, c6, c7, fun h => ⟨(c8 h).1, (c8 h).2.1, Nat.lt_of_lt_of_le (c8 h).2.2.1 q6, fun h9 => (q5 gb (c8 h).2.2.1 (by have := (c8 h).2.1; have := Hsz.out; omega)).trans ((c8 h).2.2.2 h9)⟩, fun h => Bool.noConfusion (hd.symm.trans (c9 h).1), c10, (q5 g4 ck.lt h8g.symm).trans ck, q3, fun h => Bool.noConfusion (show true = false from h), Nat.le_trans cz q6⟩
        simp only [putAll, Act.put, List.setIfInBounds_toArray, List.set_cons_zero, List.set_cons_succ]
        all_goals rfl
      | 4, _, hd, hk =>
        have h0 : d 0 = true := hk 0 (by decide +kernel)
        have h3 : d 3 = true := hk 3 (by decide +kernel)
        obtain rfl := c0 h0
        obtain ⟨h2, hp3⟩ := c3 h3
        obtain ⟨A3, C3, rfl, hB3, hC3⟩ := hp3 hd
        apply wpOp_at
        case ho => rfl
        intro K hK
        simp only [putAll, Act.put, List.setIfInBounds_toArray, List.set_cons_zero, List.set_cons_succ]
        go_simp
        refine (mTake_calls wakeC16 A3 22 C3 ([1, 0, 3, 0, 0, 0, 0, 0, 0, 0, 0, 0, 0, 0, 0, 0, 0, 0, 0, 0, 0] ++ [0]) w' hB3 rfl hC3).mono ?_
        rw [wake_none16]
        rintro e w'' ⟨a1', m1', c1', a2', m2', c2', rfl, _, hb⟩
        refine hK _ _ ⟨(cfV wakeC16), e1, e2, .slice A3 22 C3, .tuple #[mlV ml0 (.slice a1' m1' c1') (.slice a2' m2' c2'), .bool false], e5, e6, e7, e8, e10, a1', a2', m1', c1', m2', c2', gb, ?_, hB.trans (hb.mono hB.size), c0, c1, fun _ h => absurd (h3.symm.trans h) (by decide), fun _ => ⟨h2, fun h => Bool.noConfusion (show true = false from h)⟩, fun _ => ⟨h3, rfl⟩, fun h => Bool.noConfusion (hd.symm.trans (c5 h).1), fun h => Bool.noConfusion (hd.symm.trans (c6 h).1), c7, fun h => ⟨(c8 h).1, (c8 h).2.1, Nat.lt_of_lt_of_le (c8 h).2.2.1 hb.size, fun h2 => ((c8 h).2.2.2 h2).later hb (c8 h).2.2.1⟩, fun h => ⟨(c9 h).1, (c9 h).2.1, rfl⟩, c10, ck.later hb ck.lt, cb.later hb, fun h => absurd (h3.symm.trans h) (by decide), Nat.le_trans cz hb.size⟩
        simp only [putAll, Act.put, List.setIfInBounds_toArray, List.set_cons_zero, List.set_cons_succ]
        all_goals rfl
      | 5, _, hd, hk =>
        have h4 : d 4 = true := hk 4 (by decide +kernel)
        obtain ⟨h3, rfl⟩ := c4 h4
        apply wpOp_at
        case ho => rfl
        intro K hK
        simp only [putAll, Act.put, List.setIfInBounds_toArray, List.set_cons_zero, List.set_cons_succ]
        go_simp
        refine hK _ _ ⟨e0, e1, e2, e3, .tuple #[mlV ml0 (.slice p1 p2 p3) (.slice p4 p5 p6), .bool false], .tuple #[mlV ml0 (.slice p1 p2 p3) (.slice p4 p5 p6), .bool false], e6, e7, e8, e10, p1, p4, p2, p3, p5, p6, gb, ?_, hB, c0, c1, c2, c3, fun _ => ⟨h3, rfl⟩, fun _ => ⟨h4, rfl⟩, c6, c7, c8, c9, c10, ck, cb, co, cz⟩
        simp only [putAll, Act.put, List.setIfInBounds_toArray, List.set_cons_zero, List.set_cons_succ]
        all_goals rfl
      | 6, _, hd, hk =>
        have h5 : d 5 = true := hk 5 (by decide +kernel)
        obtain ⟨h4, rfl⟩ := c5 h5
        obtain ⟨h3, rfl⟩ := c4 h4
        apply wpOp_at
        case ho => rfl
        intro K hK
        simp only [putAll, Act.put, List.setIfInBounds_toArray, List.set_cons_zero, List.set_cons_succ]
        go_simp
        refine hK _ _ ⟨e0, e1, e2, e3, .tuple #[mlV ml0 (.slice p1 p2 p3) (.slice p4 p5 p6), .bool false], .tuple #[mlV ml0 (.slice p1 p2 p3) (.slice p4 p5 p6), .bool false], mlV ml0 (.slice p1 p2 p3) (.slice p4 p5 p6), e7, e8, e10, p1, p4, p2, p3, p5, p6, gb, ?_, hB, c0, c1, c2, c3, fun _ => ⟨h3, rfl⟩, fun _ => ⟨h4, rfl⟩, fun _ => ⟨h4, rfl⟩, c7, c8, c9, c10, ck, cb, co, cz⟩
        simp only [putAll, Act.put, List.setIfInBounds_toArray, List.set_cons_zero, List.set_cons_succ]
        all_goals rfl
      | 7, _, hd, hk =>
        have h5 : d 5 = true := hk 5 (by decide +kernel)
        obtain ⟨h4, rfl⟩ := c5 h5
        obtain ⟨h3, rfl⟩ := c4 h4
        apply wpOp_at
        case ho => rfl
        intro K hK
        simp only [putAll, Act.put, List.setIfInBounds_toArray, List.set_cons_zero, List.set_cons_succ]
        go_simp
        refine hK _ _ ⟨e0, e1, e2, e3, .tuple #[mlV ml0 (.slice p1 p2 p3) (.slice p4 p5 p6), .bool false], .tuple #[mlV ml0 (.slice p1 p2 p3) (.slice p4 p5 p6), .bool false], e6, .bool false, e8, e10, p1, p4, p2, p3, p5, p6, gb, ?_, hB, c0, c1, c2, c3, fun _ => ⟨h3, rfl⟩, fun _ => ⟨h4, rfl⟩, c6, fun _ => rfl, c8, c9, c10, ck, cb, co, cz⟩
        simp only [putAll, Act.put, List.setIfInBounds_toArray, List.set_cons_zero, List.set_cons_succ]
        all_goals rfl
      | 8, _, hd, hk =>
        have hb := below_box w' (.cells (mlCells ml0 (.slice none 0 0) (.slice none 0 0)) 35)
        apply wpOp_at
        case ho => rfl
        intro K hK
        simp only [putAll, Act.put, List.setIfInBounds_toArray, List.set_cons_zero, List.set_cons_succ]
        go_simp
        refine hK _ _ ⟨e0, e1, e2, e3, e4, e5, e6, e7, .pointer (some ⟨w'.heap.size, 0, none⟩), e10, p1, p4, p2, p3, p5, p6, w'.heap.size, ?_, hB.trans (hb.mono hB.size), c0, c1, fun h h3 => by
            obtain ⟨h0, e, hw⟩ := c2 h h3
            exact ⟨h0, e, hw.later hb hw.lt⟩, fun h => ⟨(c3 h).1, fun h4 => by
            obtain ⟨A, C, e, hb3, hc⟩ := (c3 h).2 h4
            exact ⟨A, C, e, hb3.later hb, hc⟩⟩, c4, c5, c6, c7, fun _ => ⟨rfl, cz, by simp, fun _ => Whole.made w' _ _⟩, fun h => Bool.noConfusion (hd.symm.trans (c9 h).2.1), c10, ck.later hb ck.lt, cb.later hb, fun h => (co h).later hb, Nat.le_trans cz hb.size⟩
        simp only [putAll, Act.put, List.setIfInBounds_toArray, List.set_cons_zero, List.set_cons_succ]
        all_goals rfl
      | 9, _, hd, hk =>
        have h6 : d 6 = true := hk 6 (by decide +kernel)
        have h8 : d 8 = true := hk 8 (by decide +kernel)
        obtain ⟨h4, rfl⟩ := c6 h6
        obtain ⟨h3, rfl⟩ := c4 h4
        obtain ⟨rfl, hgb, hgl, hw0⟩ := c8 h8
        have hZ := hw0 hd
        have y0 := hZ.free 0
        have y1 := hZ.free 1
        have y2 := hZ.free 2
        have y3 := hZ.free 3
        have y4 := hZ.free 4
        have y5 := hZ.free 5
        have y6 := hZ.free 6
        have y7 := hZ.free 7
        have y8 := hZ.free 8
        have y9 := hZ.free 9
        have y10 := hZ.free 10
        obtain ⟨⟨z0, z1, z2, z3⟩, ⟨z4, z5, z6, z7⟩, z8, z9, z10⟩ := ml_cells' hZ
        have hlb := ml11_below (g := gb) (x := ml0) (rv := .slice p1 p2 p3) (ev := .slice p4 p5 p6) (Below.refl gb w') (Nat.le_refl _)
        have hlow : ∀ k, k < gb → (ml11 w' gb ml0 (.slice p1 p2 p3) (.slice p4 p5 p6)).heap[k]? = w'.heap[k]? := fun k hk => hlb.block k hk
        apply wpOp_at
        case ho => rfl
        intro K hK
        simp only [putAll, Act.put, List.setIfInBounds_toArray, List.set_cons_zero, List.set_cons_succ]
        go_simp
        refine hK _ _ ⟨e0, e1, e2, e3, .tuple #[mlV ml0 (.slice p1 p2 p3) (.slice p4 p5 p6), .bool false], e5, mlV ml0 (.slice p1 p2 p3) (.slice p4 p5 p6), e7, .pointer (some ⟨gb, 0, none⟩), e10, p1, p4, p2, p3, p5, p6, gb, ?_, ml11_below (g := gb) (x := ml0) (rv := .slice p1 p2 p3) (ev := .slice p4 p5 p6) hB (by have := Hsz.out; have := Hb25.out.size; omega), c0, c1, fun _ h => absurd (h3.symm.trans h) (by decide), fun h => ⟨(c3 h).1, fun h => absurd (h4.symm.trans h) (by decide)⟩, fun _ => ⟨h3, rfl⟩, c5, fun _ => ⟨h4, rfl⟩, c7, fun _ => ⟨rfl, hgb, Nat.lt_of_lt_of_le hgl hlb.size, fun h => Bool.noConfusion (show true = false from h)⟩, fun _ => ⟨h3, h8, h4⟩, c10, (hlow g4 (by have := HK.out.lt; omega)).trans ck, bytes_low cb hlow (by have := Hsz.out; omega), fun h => absurd (h3.symm.trans h) (by decide), Nat.le_trans cz hlb.size⟩
        simp only [putAll, Act.put, List.setIfInBounds_toArray, List.set_cons_zero, List.set_cons_succ]
        all_goals rfl
      | 10, _, hd, hk =>
        have h7 : d 7 = true := hk 7 (by decide +kernel)
        obtain rfl := c7 h7
        apply wpOp_at
        case ho => rfl
        intro K hK
        simp only [putAll, Act.put, List.setIfInBounds_toArray, List.set_cons_zero, List.set_cons_succ]
        go_simp
        refine hK _ _ ⟨e0, e1, e2, e3, e4, e5, e6, .bool false, e8, .bool false, p1, p4, p2, p3, p5, p6, gb, ?_, hB, c0, c1, c2, c3, c4, c5, c6, fun _ => rfl, c8, c9, fun _ => rfl, ck, cb, co, cz⟩
        simp only [putAll, Act.put, List.setIfInBounds_toArray, List.set_cons_zero, List.set_cons_succ]
        all_goals rfl
      | k + 11, hi, _, _ => exact absurd hi (by simp)
    case ends =>
      intro d a' w6 hJ hall
      obtain ⟨e0, e1, e2, e3, e4, e5, e6, e7, e8, e10, p1, p4, p2, p3, p5, p6, gb, rfl, hB, c0, c1, c2, c3, c4, c5, c6, c7, c8, c9, c10, ck, cb, co, cz⟩ := hJ
      obtain rfl := c10 (hall 10 (by decide +kernel))
      obtain rfl := c7 (hall 7 (by decide +kernel))
      have HKe := Lib.hid ck
      have HBe := Lib.hid cb
      have Hbe := Lib.hid (held_next Hb2.out hB)
      clear c0 c1 c2 c3 c4 c5 c6 c7 c8 c9 c10 hall ck cb co cz hB
      simp only [putAll, Act.put, List.setIfInBounds_toArray, List.set_cons_zero, List.set_cons_succ]
      obtain ⟨⟨z0, z1, z2, z3⟩, ⟨z4, z5, z6, z7⟩, z8, z9, z10⟩ := ml_cells' HKe.out
      simp only at z2
      have hat : ∀ j, j < 21 → w6.cell? ⟨g8, j, none⟩ = some (.int .u8 (([1, 0, 3, 0, 0, 0, 0, 0, 0, 0, 0, 0, 0, 0, 0, 0, 0, 0, 0, 0, 0] : List Int).getD j 0)) := fun j hj => by
        obtain ⟨_, _, h | ⟨b, off, c', e, hc⟩⟩ := HBe.out
        · obtain ⟨_, _, e, _, _⟩ := h
          cases e
        · have e2 : Value.slice (some ⟨g8, 0, none⟩) 21 C8 = .slice (some ⟨b, off, none⟩) 21 c' := e
          simp only [Value.slice.injEq, Option.some.injEq, Addr.mk.injEq, and_true, true_and] at e2
          have h := hc j hj
          rw [← e2.1.1, ← e2.1.2, Nat.zero_add] at h
          exact h
      have u0 := hat 0 (by decide)
      have u1 := hat 1 (by decide)
      simp only [List.getD_cons_zero, List.getD_cons_succ] at u0 u1
      clear hat z0 z1 z3 z4 z5 z6 z7 z8 z9 z10
      go_wp2_with fail
      go_ret
      exact ⟨by rfl, Hbe.out⟩
end Go.Proofs.Ytfpadcfahfanoaa
