/- Parts, as far as BookNewCards reaches them, of: BookItem, BookSome. No law is proved here. -/
import Derived.Test.YtnkgakhnlbifdaaNk7
import Derived.Test.YtnkgakhnlbifdaaNk1
import Derived.Test.YtnkgakhnlbifdaaNk4
import Derived.Laws.EntriesVeiled
import Derived.Test.YtnkgakhnlbifdaaNk0
import Derived.LoopTactic
import Derived.BigRegion
namespace Go.Proofs.Ytnkgakhnlbifdaa
open Go.RowKit
def EnvK (gr gp gw go : Nat) (who : Int) (W : World) : Prop :=
 (gp ≠ gr ∧ gw ≠ gr ∧ go ≠ gr) ∧ Whole W gp 96 #[.pointer (some ⟨gr, 0, none⟩)] ∧ Whole W gw 3 #[.int .i64 who] ∧ Whole W go 97 #[.func (.func 48) #[] #[.pointer (some ⟨gw, 0, none⟩)]]
theorem EnvK.butG {gr gp gw go : Nat} {who : Int} {W w : World} (h : EnvK gr gp gw go who W) (k : ButG gr W w) : EnvK gr gp gw go who w := ⟨h.1, h.2.1.butG k h.1.1, h.2.2.1.butG k h.1.2.1, h.2.2.2.butG k h.1.2.2⟩
theorem EnvK.later {gr gp gw go : Nat} {who : Int} {W w : World} (h : EnvK gr gp gw go who W) (hb : Below W.heap.size W w) : EnvK gr gp gw go who w := ⟨h.1, h.2.1.later hb h.2.1.lt, h.2.2.1.later hb h.2.2.1.lt, h.2.2.2.later hb h.2.2.2.lt⟩
set_option maxRecDepth 100000 in
set_option maxHeartbeats 4000000 in
theorem kown_calls (gw : Nat) (who t : Int) (W : World) (h : Whole W gw 3 #[.int .i64 who]) :
 Calls Try.prog 48 #[.int .i64 t, .pointer (some ⟨gw, 0, none⟩)] W (fun e w' => e = .returned (.agg #[.int .i64 t, .int .i64 who]) ∧ Below W.heap.size W w') := by
 have hw1 := (h.later (below_box W (.cells #[.int .i64 0, .int .i64 0] 55)) h.lt).cell 0
 have hlt := h.lt
 clear h
 go_enter Try.func48, Try.ntmps48
 go_wp2_with fail
 refine bodyPost_ret (v := .agg #[.int .i64 t, .int .i64 who]) (by simp [results, Try.results48, go_sem]) rfl ⟨rfl, ?_⟩
 exact below_box W _
set_option maxRecDepth 100000 in
set_option maxHeartbeats 8000000 in
theorem kreq_calls (w0 : World) (gr gp gw go : Nat) (who : Int) (z : List Int) (W : World) (hR : Rd w0 gr z W) (hb : Below w0.heap.size w0 W) (hg : w0.heap.size ≤ gr) (hE : EnvK gr gp gw go who W) :
 Calls Try.prog 49 #[.pointer (some ⟨go, 0, none⟩), .pointer (some ⟨gp, 0, none⟩)] W (Reads w0 gr W (rdS (z, false) 2) (.agg (rqCells ⟨rdX (z, false) 0, who, rdX (z, false) 1⟩))) := by
 have HB1 : Hid (ButG gr W (W.alloc (.cells #[.int .i64 0, .int .i64 0, .int .i64 0] 68))) := ButG.of (below_box _ _)
 have HR1 : Hid (Rd w0 gr z (W.alloc (.cells #[.int .i64 0, .int .i64 0, .int .i64 0] 68))) := hR.later (below_box _ _)
 have Hb1 : Hid (Below w0.heap.size w0 (W.alloc (.cells #[.int .i64 0, .int .i64 0, .int .i64 0] 68))) := held_next hb (below_box _ _)
 have HE1 : Hid (EnvK gr gp gw go who (W.alloc (.cells #[.int .i64 0, .int .i64 0, .int .i64 0] 68))) := hE.later (below_box _ _)
 have HM1 := Lib.hid (Whole.made W 68 #[.int .i64 0, .int .i64 0, .int .i64 0])
 have hgr : gr < W.heap.size := hR.lt
 have hgp : gp < W.heap.size := hE.2.1.lt
 have hgw : gw < W.heap.size := hE.2.2.1.lt
 have hgo : go < W.heap.size := hE.2.2.2.lt
 have h0W : w0.heap.size ≤ W.heap.size := hb.size
 obtain ⟨x0, Hx0⟩ : ∃ q, Hid (rdX (z, false) 0 = q) := ⟨_, rfl⟩
 obtain ⟨x1, Hx1⟩ : ∃ q, Hid (rdX (z, false) 1 = q) := ⟨_, rfl⟩
 rw [Hx0.out, Hx1.out]
 obtain ⟨F, HF⟩ : ∃ q, Hid (q = rdS (z, false) 2) := ⟨_, rfl⟩
 rw [← HF.out]
 clear hb hR hE
 go_enter Try.func49, Try.ntmps49
 go_wp2_with fail
 refine wp_region_each_at ?hm ?hb (fun a0 d a' w' => ∃ (e0 e1 e2 e3 e4 e5 e6 : Value), a' = putAll a0 [(3, e0), (4, e1), (5, e2), (6, e3), (7, e4), (8, e5), (9, e6)] ∧ Below w0.heap.size w0 w' ∧ (d 0 = true → e0 = (.func (.func 48) #[] #[.pointer (some ⟨gw, 0, none⟩)])) ∧ (d 1 = true → e1 = (.pointer (some ⟨gr, 0, none⟩))) ∧ (d 2 = true → ((rdS (z, false) 1).2 = false ∧ e2 = .int .i64 x0 ∧ (d 5 = false → Rd w0 gr (rdS (z, false) 1).1 w'))) ∧ (d 3 = true → (d 2 = true ∧ e3 = .agg #[.int .i64 x0, .int .i64 who])) ∧ (d 4 = true → e4 = (.pointer (some ⟨gr, 0, none⟩))) ∧ (d 5 = true → ((rdS (z, false) 2).2 = false ∧ e5 = .int .i64 x1 ∧ d 2 = true ∧ Rd w0 gr (rdS (z, false) 2).1 w')) ∧ (d 6 = true → (e6 = .agg #[.int .i64 x0, .int .i64 who, .int .i64 x1])) ∧ (d 7 = true → (d 2 = true ∧ d 3 = true ∧ d 5 = true ∧ Whole w' W.heap.size 68 (rqCells ⟨x0, who, x1⟩))) ∧ EnvK gr gp gw go who w' ∧ ButG gr W w' ∧ (d 7 = false → Whole w' W.heap.size 68 #[.int .i64 0, .int .i64 0, .int .i64 0]) ∧ (d 2 = false → Rd w0 gr z w')) ?h0 ?step ?ends
 case hm => kernel_rfl
 case hb => kernel_rfl
 case h0 =>
  refine ⟨undef, undef, undef, undef, undef, undef, undef, ?_, Hb1.out.drew, fun h => absurd h (by decide), fun h => absurd h (by decide), fun h => absurd h (by decide), fun h => absurd h (by decide), fun h => absurd h (by decide), fun h => absurd h (by decide), fun h => absurd h (by decide), fun h => absurd h (by decide), HE1.out.later (Below.refl _ _).drew, HB1.out.next (Below.refl _ _).drew, fun _ => HM1.out.drew, fun _ => HR1.out.later (Below.refl _ _).drew⟩
  simp only [putAll, Act.put, List.setIfInBounds_toArray, List.set_cons_zero, List.set_cons_succ]
 case step =>
  intro i d a' w' hi hJ hd hk
  obtain ⟨e0, e1, e2, e3, e4, e5, e6, rfl, hC⟩ := hJ
  obtain ⟨hB, hC⟩ := hC
  obtain ⟨c0, hC⟩ := hC
  obtain ⟨c1, hC⟩ := hC
  obtain ⟨c2, hC⟩ := hC
  obtain ⟨c3, hC⟩ := hC
  obtain ⟨c4, hC⟩ := hC
  obtain ⟨c5, hC⟩ := hC
  obtain ⟨c6, hC⟩ := hC
  obtain ⟨c7, hC⟩ := hC
  obtain ⟨kE, hC⟩ := hC
  obtain ⟨kB, hC⟩ := hC
  obtain ⟨kM, hC⟩ := hC
  have kR := hC
  clear hC
  match i, hi, hd, hk with
  | 0, _, hd, hk =>
    have hc0 := kE.2.2.2.cell 0
    apply wpOp_at
    case ho => rfl
    intro K hK
    simp only [putAll, Act.put, List.setIfInBounds_toArray, List.set_cons_zero, List.set_cons_succ]
    go_simp
    refine hK _ _ ⟨(.func (.func 48) #[] #[.pointer (some ⟨gw, 0, none⟩)]), e1, e2, e3, e4, e5, e6, ?_, hB, fun _ => rfl, c1, c2, c3, c4, c5, c6, c7, kE, kB, kM, kR⟩
    simp only [putAll, Act.put, List.setIfInBounds_toArray, List.set_cons_zero, List.set_cons_succ]
    all_goals rfl
  | 1, _, hd, hk =>
    have hc0 := kE.2.1.cell 0
    apply wpOp_at
    case ho => rfl
    intro K hK
    simp only [putAll, Act.put, List.setIfInBounds_toArray, List.set_cons_zero, List.set_cons_succ]
    go_simp
    refine hK _ _ ⟨e0, (.pointer (some ⟨gr, 0, none⟩)), e2, e3, e4, e5, e6, ?_, hB, c0, fun _ => rfl, c2, c3, c4, c5, c6, c7, kE, kB, kM, kR⟩
    simp only [putAll, Act.put, List.setIfInBounds_toArray, List.set_cons_zero, List.set_cons_succ]
    all_goals rfl
  | 2, _, hd, hk =>
    have h1 : d 1 = true := hk 1 (by decide +kernel)
    obtain rfl := c1 h1
    have hd5 : d 5 = false := (Bool.eq_false_or_eq_true (d 5)).elim (fun h => absurd ((c5 h).2.2.1.symm.trans hd) (by decide)) id
    apply wpOp_at
    case ho => rfl
    intro K hK
    simp only [putAll, Act.put, List.setIfInBounds_toArray, List.set_cons_zero, List.set_cons_succ]
    go_simp
    have hlk := knum_at w0 gr (z, false) 0 _ rfl (kR hd) hB
    rw [Hx0.out] at hlk
    refine hlk.mono ?_
    clear hlk
    rintro e w'' ⟨hG, ⟨hs, rfl, hR⟩ | ⟨hs, rfl⟩⟩
    rotate_left 1
    · have hf : F.2 = true := by rw [HF.out]; exact rdS_flag_le hs (by decide)
      exact ⟨rfl, kB.trans hG, Or.inr ⟨hf, rfl⟩⟩
    have hBb := hG.from hB hg
    refine hK _ _ ⟨e0, (.pointer (some ⟨gr, 0, none⟩)), .int .i64 x0, e3, e4, e5, e6, ?_, hBb, c0, c1, fun _ => ⟨hs, rfl, fun _ => hR⟩, fun h => absurd ((c3 h).1.symm.trans hd) (by decide), c4, fun h => absurd (hd5.symm.trans h) (by decide), c6, fun h => absurd ((c7 h).1.symm.trans hd) (by decide), kE.butG hG, kB.trans hG, fun h => (kM h).butG hG (by omega), fun h => Bool.noConfusion (show true = false from h)⟩
    simp only [putAll, Act.put, List.setIfInBounds_toArray, List.set_cons_zero, List.set_cons_succ]
    all_goals rfl
  | 3, _, hd, hk =>
    have h0 : d 0 = true := hk 0 (by decide +kernel)
    have h2 : d 2 = true := hk 2 (by decide +kernel)
    obtain rfl := c0 h0
    obtain ⟨hs1, rfl, hR1⟩ := c2 h2
    apply wpOp_at
    case ho => rfl
    intro K hK
    simp only [putAll, Act.put, List.setIfInBounds_toArray, List.set_cons_zero, List.set_cons_succ]
    go_simp
    refine (kown_calls gw who x0 _ kE.2.2.1).mono ?_
    rintro e w'' ⟨rfl, hb⟩
    refine hK _ _ ⟨(.func (.func 48) #[] #[.pointer (some ⟨gw, 0, none⟩)]), e1, .int .i64 x0, .agg #[.int .i64 x0, .int .i64 who], e4, e5, e6, ?_, hB.trans (hb.mono hB.size), c0, c1, fun _ => ⟨hs1, rfl, fun h => (hR1 h).later hb⟩, fun _ => ⟨h2, rfl⟩, c4, fun h => ⟨(c5 h).1, (c5 h).2.1, (c5 h).2.2.1, (c5 h).2.2.2.later hb⟩, c6, fun h => absurd ((c7 h).2.1.symm.trans hd) (by decide), kE.later hb, kB.next hb, fun h => (kM h).later hb (kM h).lt, fun h => absurd (h2.symm.trans h) (by decide)⟩
    simp only [putAll, Act.put, List.setIfInBounds_toArray, List.set_cons_zero, List.set_cons_succ]
    all_goals rfl
  | 4, _, hd, hk =>
    have hc0 := kE.2.1.cell 0
    apply wpOp_at
    case ho => rfl
    intro K hK
    simp only [putAll, Act.put, List.setIfInBounds_toArray, List.set_cons_zero, List.set_cons_succ]
    go_simp
    refine hK _ _ ⟨e0, e1, e2, e3, (.pointer (some ⟨gr, 0, none⟩)), e5, e6, ?_, hB, c0, c1, c2, c3, fun _ => rfl, c5, c6, c7, kE, kB, kM, kR⟩
    simp only [putAll, Act.put, List.setIfInBounds_toArray, List.set_cons_zero, List.set_cons_succ]
    all_goals rfl
  | 5, _, hd, hk =>
    have h3 : d 3 = true := hk 3 (by decide +kernel)
    have h4 : d 4 = true := hk 4 (by decide +kernel)
    obtain rfl := c4 h4
    obtain ⟨h2, rfl⟩ := c3 h3
    obtain ⟨hs1, rfl, hR1⟩ := c2 h2
    apply wpOp_at
    case ho => rfl
    intro K hK
    simp only [putAll, Act.put, List.setIfInBounds_toArray, List.set_cons_zero, List.set_cons_succ]
    go_simp
    have hlk := knum_at w0 gr (z, false) 1 _ hs1 (hR1 hd) hB
    rw [Hx1.out] at hlk
    refine hlk.mono ?_
    clear hlk
    rintro e w'' ⟨hG, ⟨hs, rfl, hR⟩ | ⟨hs, rfl⟩⟩
    rotate_left 1
    · have hf : F.2 = true := by rw [HF.out]; exact rdS_flag_le hs (by decide)
      exact ⟨rfl, kB.trans hG, Or.inr ⟨hf, rfl⟩⟩
    have hBb := hG.from hB hg
    refine hK _ _ ⟨e0, e1, .int .i64 x0, .agg #[.int .i64 x0, .int .i64 who], (.pointer (some ⟨gr, 0, none⟩)), .int .i64 x1, e6, ?_, hBb, c0, c1, fun _ => ⟨hs1, rfl, fun h => Bool.noConfusion (show true = false from h)⟩, fun _ => ⟨h2, rfl⟩, c4, fun _ => ⟨hs, rfl, h2, hR⟩, c6, fun h => absurd ((c7 h).2.2.1.symm.trans hd) (by decide), kE.butG hG, kB.trans hG, fun h => (kM h).butG hG (by omega), fun h => absurd (h2.symm.trans h) (by decide)⟩
    simp only [putAll, Act.put, List.setIfInBounds_toArray, List.set_cons_zero, List.set_cons_succ]
    all_goals rfl
  | 6, _, hd, hk =>
    have h3 : d 3 = true := hk 3 (by decide +kernel)
    have h5 : d 5 = true := hk 5 (by decide +kernel)
    obtain ⟨h2, rfl⟩ := c3 h3
    obtain ⟨hs1, rfl, hR1⟩ := c2 h2
    obtain ⟨hs2, rfl, -, hR2⟩ := c5 h5
    apply wpOp_at
    case ho => rfl
    intro K hK
    simp only [putAll, Act.put, List.setIfInBounds_toArray, List.set_cons_zero, List.set_cons_succ]
    go_simp
    refine hK _ _ ⟨e0, e1, .int .i64 x0, .agg #[.int .i64 x0, .int .i64 who], e4, .int .i64 x1, .agg #[.int .i64 x0, .int .i64 who, .int .i64 x1], ?_, hB, c0, c1, fun _ => ⟨hs1, rfl, hR1⟩, fun _ => ⟨h2, rfl⟩, c4, fun _ => ⟨hs2, rfl, h2, hR2⟩, fun _ => rfl, c7, kE, kB, kM, kR⟩
    simp only [putAll, Act.put, List.setIfInBounds_toArray, List.set_cons_zero, List.set_cons_succ]
    all_goals rfl
  | 7, _, hd, hk =>
    have h0 : d 0 = true := hk 0 (by decide +kernel)
    have h1 : d 1 = true := hk 1 (by decide +kernel)
    have h2 : d 2 = true := hk 2 (by decide +kernel)
    have h3 : d 3 = true := hk 3 (by decide +kernel)
    have h4 : d 4 = true := hk 4 (by decide +kernel)
    have h5 : d 5 = true := hk 5 (by decide +kernel)
    have h6 : d 6 = true := hk 6 (by decide +kernel)
    obtain rfl := c0 h0
    obtain rfl := c1 h1
    obtain rfl := c4 h4
    obtain rfl := c6 h6
    obtain ⟨hs1, rfl, hR1⟩ := c2 h2
    obtain ⟨-, rfl⟩ := c3 h3
    obtain ⟨hs2, rfl, -, hR2⟩ := c5 h5
    have kM := kM hd
    have m0 := kM.cell 0
    have m1 := kM.cell 1
    have m2 := kM.cell 2
    have n0 := kM.free 0
    have n1 := kM.free 1
    have n2 := kM.free 2
    apply wpOp_at
    case ho => rfl
    intro K hK
    simp only [putAll, Act.put, List.setIfInBounds_toArray, List.set_cons_zero, List.set_cons_succ]
    go_simp
    have hW3 : Whole (((w'.setCell ⟨W.heap.size, 0, none⟩ (.int .i64 x0)).setCell ⟨W.heap.size, 1, none⟩ (.int .i64 who)).setCell ⟨W.heap.size, 2, none⟩ (.int .i64 x1)) W.heap.size 68 (rqCells ⟨x0, who, x1⟩) := by have h := ((kM.set 0 (.int .i64 x0)).set 1 (.int .i64 who)).set 2 (.int .i64 x1); simpa only [List.setIfInBounds_toArray, List.set_cons_zero, List.set_cons_succ] using h
    have hE3 : ∀ (u : Value) (i : Nat) (q : World), EnvK gr gp gw go who q → EnvK gr gp gw go who (q.setCell ⟨W.heap.size, i, none⟩ u) := fun u i q h => ⟨h.1, h.2.1.other (p := ⟨W.heap.size, i, none⟩) (by show _ ≠ W.heap.size; omega) u, h.2.2.1.other (p := ⟨W.heap.size, i, none⟩) (by show _ ≠ W.heap.size; omega) u, h.2.2.2.other (p := ⟨W.heap.size, i, none⟩) (by show _ ≠ W.heap.size; omega) u⟩
    refine hK _ _ ⟨(.func (.func 48) #[] #[.pointer (some ⟨gw, 0, none⟩)]), (.pointer (some ⟨gr, 0, none⟩)), .int .i64 x0, .agg #[.int .i64 x0, .int .i64 who], (.pointer (some ⟨gr, 0, none⟩)), .int .i64 x1, .agg #[.int .i64 x0, .int .i64 who, .int .i64 x1], ?_, ((hB.setCell (p := ⟨W.heap.size, 0, none⟩) (by show _ ≤ W.heap.size; omega) _).setCell (p := ⟨W.heap.size, 1, none⟩) (by show _ ≤ W.heap.size; omega) _).setCell (p := ⟨W.heap.size, 2, none⟩) (by show _ ≤ W.heap.size; omega) _, c0, c1, fun _ => ⟨hs1, rfl, fun h => absurd (h5.symm.trans h) (by decide)⟩, fun _ => ⟨h2, rfl⟩, c4, fun _ => ⟨hs2, rfl, h2, ((hR2.set (p := ⟨W.heap.size, 0, none⟩) (by show W.heap.size ≠ gr; omega) _).set (p := ⟨W.heap.size, 1, none⟩) (by show W.heap.size ≠ gr; omega) _).set (p := ⟨W.heap.size, 2, none⟩) (by show W.heap.size ≠ gr; omega) _⟩, fun _ => rfl, fun _ => ⟨h2, h3, h5, hW3⟩, hE3 _ _ _ (hE3 _ _ _ (hE3 _ _ _ kE)), ((kB.own (p := ⟨W.heap.size, 0, none⟩) (Nat.le_refl _) _).own (p := ⟨W.heap.size, 1, none⟩) (Nat.le_refl _) _).own (p := ⟨W.heap.size, 2, none⟩) (Nat.le_refl _) _, fun h => Bool.noConfusion (show true = false from h), fun h => absurd ((hk 2 (by decide +kernel)).symm.trans h) (by decide)⟩
    simp only [putAll, Act.put, List.setIfInBounds_toArray, List.set_cons_zero, List.set_cons_succ]
    all_goals rfl
  | k + 8, hi, _, _ => exact absurd hi (by simp)
 case ends =>
  intro d a' w' hJ hall
  obtain ⟨e0, e1, e2, e3, e4, e5, e6, rfl, hC⟩ := hJ
  obtain ⟨hB, hC⟩ := hC
  obtain ⟨c0, hC⟩ := hC
  obtain ⟨c1, hC⟩ := hC
  obtain ⟨c2, hC⟩ := hC
  obtain ⟨c3, hC⟩ := hC
  obtain ⟨c4, hC⟩ := hC
  obtain ⟨c5, hC⟩ := hC
  obtain ⟨c6, hC⟩ := hC
  obtain ⟨c7, hC⟩ := hC
  obtain ⟨kE, hC⟩ := hC
  obtain ⟨kB, hC⟩ := hC
  obtain ⟨kM, hC⟩ := hC
  have kR := hC
  clear hC
  obtain ⟨-, -, h5, HM⟩ := c7 (hall 7 (by decide +kernel))
  obtain ⟨hs2, -, -, hR2⟩ := c5 h5
  have q0 := HM.cell 0
  have q1 := HM.cell 1
  have q2 := HM.cell 2
  have HK : Hid (ButG gr W w' ∧ Rd w0 gr (rdS (z, false) 2).1 w') := ⟨kB, hR2⟩
  clear c0 c1 c2 c3 c4 c5 c6 c7 kE kB kM kR hall hB hR2
  simp only [putAll, Act.put, List.setIfInBounds_toArray, List.set_cons_zero, List.set_cons_succ]
  go_wp2_with fail
  refine bodyPost_ret (v := .agg #[.int .i64 x0, .int .i64 who, .int .i64 x1]) (by simp [results, Try.results49, go_sem, q0, q1, q2]) rfl ⟨HK.out.1, Or.inl ⟨by rw [HF.out]; exact hs2, rfl, by rw [HF.out]; exact HK.out.2⟩⟩
set_option maxRecDepth 100000 in
set_option maxHeartbeats 8000000 in
theorem kout_calls (w0 : World) (gr gp gw go : Nat) (who : Int) (z : List Int) (W : World) (hR : Rd w0 gr z W) (hb : Below w0.heap.size w0 W) (hg : w0.heap.size ≤ gr) (hE : EnvK gr gp gw go who W) :
 Calls Try.prog 51 #[.pointer (some ⟨go, 0, none⟩), .pointer (some ⟨gp, 0, none⟩)] W (Reads w0 gr W (rdS (z, false) 2) (.agg (rqCells ⟨rdX (z, false) 0, who, rdX (z, false) 1⟩))) := by
 have HB1 : Hid (ButG gr W (W.alloc (.cells #[.int .i64 0, .int .i64 0, .int .i64 0] 57))) := ButG.of (below_box _ _)
 have HR1 : Hid (Rd w0 gr z (W.alloc (.cells #[.int .i64 0, .int .i64 0, .int .i64 0] 57))) := hR.later (below_box _ _)
 have Hb1 : Hid (Below w0.heap.size w0 (W.alloc (.cells #[.int .i64 0, .int .i64 0, .int .i64 0] 57))) := held_next hb (below_box _ _)
 have HE1 : Hid (EnvK gr gp gw go who (W.alloc (.cells #[.int .i64 0, .int .i64 0, .int .i64 0] 57))) := hE.later (below_box _ _)
 have HM1 := Lib.hid (Whole.made W 57 #[.int .i64 0, .int .i64 0, .int .i64 0])
 have hgr : gr < W.heap.size := hR.lt
 have hgp : gp < W.heap.size := hE.2.1.lt
 have hgw : gw < W.heap.size := hE.2.2.1.lt
 have hgo : go < W.heap.size := hE.2.2.2.lt
 have h0W : w0.heap.size ≤ W.heap.size := hb.size
 obtain ⟨x0, Hx0⟩ : ∃ q, Hid (rdX (z, false) 0 = q) := ⟨_, rfl⟩
 obtain ⟨x1, Hx1⟩ : ∃ q, Hid (rdX (z, false) 1 = q) := ⟨_, rfl⟩
 rw [Hx0.out, Hx1.out]
 obtain ⟨F, HF⟩ : ∃ q, Hid (q = rdS (z, false) 2) := ⟨_, rfl⟩
 rw [← HF.out]
 clear hb hR hE
 go_enter Try.func51, Try.ntmps51
 go_wp2_with fail
 refine wp_region_each_at ?hm ?hb (fun a0 d a' w' => ∃ (e0 e1 e2 e3 e4 e5 e6 : Value), a' = putAll a0 [(3, e0), (4, e1), (5, e2), (6, e3), (7, e4), (8, e5), (9, e6)] ∧ Below w0.heap.size w0 w' ∧ (d 0 = true → e0 = (.func (.func 48) #[] #[.pointer (some ⟨gw, 0, none⟩)])) ∧ (d 1 = true → e1 = (.pointer (some ⟨gr, 0, none⟩))) ∧ (d 2 = true → ((rdS (z, false) 1).2 = false ∧ e2 = .int .i64 x0 ∧ (d 5 = false → Rd w0 gr (rdS (z, false) 1).1 w'))) ∧ (d 3 = true → (d 2 = true ∧ e3 = .agg #[.int .i64 x0, .int .i64 who])) ∧ (d 4 = true → e4 = (.pointer (some ⟨gr, 0, none⟩))) ∧ (d 5 = true → ((rdS (z, false) 2).2 = false ∧ e5 = .int .i64 x1 ∧ d 2 = true ∧ Rd w0 gr (rdS (z, false) 2).1 w')) ∧ (d 6 = true → (e6 = .agg #[.int .i64 x0, .int .i64 who, .int .i64 x1])) ∧ (d 7 = true → (d 2 = true ∧ d 3 = true ∧ d 5 = true ∧ Whole w' W.heap.size 57 (rqCells ⟨x0, who, x1⟩))) ∧ EnvK gr gp gw go who w' ∧ ButG gr W w' ∧ (d 7 = false → Whole w' W.heap.size 57 #[.int .i64 0, .int .i64 0, .int .i64 0]) ∧ (d 2 = false → Rd w0 gr z w')) ?h0 ?step ?ends
 case hm => kernel_rfl
 case hb => kernel_rfl
 case h0 =>
  refine ⟨undef, undef, undef, undef, undef, undef, undef, ?_, Hb1.out.drew, fun h => absurd h (by decide), fun h => absurd h (by decide), fun h => absurd h (by decide), fun h => absurd h (by decide), fun h => absurd h (by decide), fun h => absurd h (by decide), fun h => absurd h (by decide), fun h => absurd h (by decide), HE1.out.later (Below.refl _ _).drew, HB1.out.next (Below.refl _ _).drew, fun _ => HM1.out.drew, fun _ => HR1.out.later (Below.refl _ _).drew⟩
  simp only [putAll, Act.put, List.setIfInBounds_toArray, List.set_cons_zero, List.set_cons_succ]
 case step =>
  intro i d a' w' hi hJ hd hk
  obtain ⟨e0, e1, e2, e3, e4, e5, e6, rfl, hC⟩ := hJ
  obtain ⟨hB, hC⟩ := hC
  obtain ⟨c0, hC⟩ := hC
  obtain ⟨c1, hC⟩ := hC
  obtain ⟨c2, hC⟩ := hC
  obtain ⟨c3, hC⟩ := hC
  obtain ⟨c4, hC⟩ := hC
  obtain ⟨c5, hC⟩ := hC
  obtain ⟨c6, hC⟩ := hC
  obtain ⟨c7, hC⟩ := hC
  obtain ⟨kE, hC⟩ := hC
  obtain ⟨kB, hC⟩ := hC
  obtain ⟨kM, hC⟩ := hC
  have kR := hC
  clear hC
  match i, hi, hd, hk with
  | 0, _, hd, hk =>
    have hc0 := kE.2.2.2.cell 0
    apply wpOp_at
    case ho => rfl
    intro K hK
    simp only [putAll, Act.put, List.setIfInBounds_toArray, List.set_cons_zero, List.set_cons_succ]
    go_simp
    refine hK _ _ ⟨(.func (.func 48) #[] #[.pointer (some ⟨gw, 0, none⟩)]), e1, e2, e3, e4, e5, e6, ?_, hB, fun _ => rfl, c1, c2, c3, c4, c5, c6, c7, kE, kB, kM, kR⟩
    simp only [putAll, Act.put, List.setIfInBounds_toArray, List.set_cons_zero, List.set_cons_succ]
    all_goals rfl
  | 1, _, hd, hk =>
    have hc0 := kE.2.1.cell 0
    apply wpOp_at
    case ho => rfl
    intro K hK
    simp only [putAll, Act.put, List.setIfInBounds_toArray, List.set_cons_zero, List.set_cons_succ]
    go_simp
    refine hK _ _ ⟨e0, (.pointer (some ⟨gr, 0, none⟩)), e2, e3, e4, e5, e6, ?_, hB, c0, fun _ => rfl, c2, c3, c4, c5, c6, c7, kE, kB, kM, kR⟩
    simp only [putAll, Act.put, List.setIfInBounds_toArray, List.set_cons_zero, List.set_cons_succ]
    all_goals rfl
  | 2, _, hd, hk =>
    have h1 : d 1 = true := hk 1 (by decide +kernel)
    obtain rfl := c1 h1
    have hd5 : d 5 = false := (Bool.eq_false_or_eq_true (d 5)).elim (fun h => absurd ((c5 h).2.2.1.symm.trans hd) (by decide)) id
    apply wpOp_at
    case ho => rfl
    intro K hK
    simp only [putAll, Act.put, List.setIfInBounds_toArray, List.set_cons_zero, List.set_cons_succ]
    go_simp
    have hlk := knum_at w0 gr (z, false) 0 _ rfl (kR hd) hB
    rw [Hx0.out] at hlk
    refine hlk.mono ?_
    clear hlk
    rintro e w'' ⟨hG, ⟨hs, rfl, hR⟩ | ⟨hs, rfl⟩⟩
    rotate_left 1
    · have hf : F.2 = true := by rw [HF.out]; exact rdS_flag_le hs (by decide)
      exact ⟨rfl, kB.trans hG, Or.inr ⟨hf, rfl⟩⟩
    have hBb := hG.from hB hg
    refine hK _ _ ⟨e0, (.pointer (some ⟨gr, 0, none⟩)), .int .i64 x0, e3, e4, e5, e6, ?_, hBb, c0, c1, fun _ => ⟨hs, rfl, fun _ => hR⟩, fun h => absurd ((c3 h).1.symm.trans hd) (by decide), c4, fun h => absurd (hd5.symm.trans h) (by decide), c6, fun h => absurd ((c7 h).1.symm.trans hd) (by decide), kE.butG hG, kB.trans hG, fun h => (kM h).butG hG (by omega), fun h => Bool.noConfusion (show true = false from h)⟩
    simp only [putAll, Act.put, List.setIfInBounds_toArray, List.set_cons_zero, List.set_cons_succ]
    all_goals rfl
  | 3, _, hd, hk =>
    have h0 : d 0 = true := hk 0 (by decide +kernel)
    have h2 : d 2 = true := hk 2 (by decide +kernel)
    obtain rfl := c0 h0
    obtain ⟨hs1, rfl, hR1⟩ := c2 h2
    apply wpOp_at
    case ho => rfl
    intro K hK
    simp only [putAll, Act.put, List.setIfInBounds_toArray, List.set_cons_zero, List.set_cons_succ]
    go_simp
    refine (kown_calls gw who x0 _ kE.2.2.1).mono ?_
    rintro e w'' ⟨rfl, hb⟩
    refine hK _ _ ⟨(.func (.func 48) #[] #[.pointer (some ⟨gw, 0, none⟩)]), e1, .int .i64 x0, .agg #[.int .i64 x0, .int .i64 who], e4, e5, e6, ?_, hB.trans (hb.mono hB.size), c0, c1, fun _ => ⟨hs1, rfl, fun h => (hR1 h).later hb⟩, fun _ => ⟨h2, rfl⟩, c4, fun h => ⟨(c5 h).1, (c5 h).2.1, (c5 h).2.2.1, (c5 h).2.2.2.later hb⟩, c6, fun h => absurd ((c7 h).2.1.symm.trans hd) (by decide), kE.later hb, kB.next hb, fun h => (kM h).later hb (kM h).lt, fun h => absurd (h2.symm.trans h) (by decide)⟩
    simp only [putAll, Act.put, List.setIfInBounds_toArray, List.set_cons_zero, List.set_cons_succ]
    all_goals rfl
  | 4, _, hd, hk =>
    have hc0 := kE.2.1.cell 0
    apply wpOp_at
    case ho => rfl
    intro K hK
    simp only [putAll, Act.put, List.setIfInBounds_toArray, List.set_cons_zero, List.set_cons_succ]
    go_simp
    refine hK _ _ ⟨e0, e1, e2, e3, (.pointer (some ⟨gr, 0, none⟩)), e5, e6, ?_, hB, c0, c1, c2, c3, fun _ => rfl, c5, c6, c7, kE, kB, kM, kR⟩
    simp only [putAll, Act.put, List.setIfInBounds_toArray, List.set_cons_zero, List.set_cons_succ]
    all_goals rfl
  | 5, _, hd, hk =>
    have h3 : d 3 = true := hk 3 (by decide +kernel)
    have h4 : d 4 = true := hk 4 (by decide +kernel)
    obtain rfl := c4 h4
    obtain ⟨h2, rfl⟩ := c3 h3
    obtain ⟨hs1, rfl, hR1⟩ := c2 h2
    apply wpOp_at
    case ho => rfl
    intro K hK
    simp only [putAll, Act.put, List.setIfInBounds_toArray, List.set_cons_zero, List.set_cons_succ]
    go_simp
    have hlk := knum_at w0 gr (z, false) 1 _ hs1 (hR1 hd) hB
    rw [Hx1.out] at hlk
    refine hlk.mono ?_
    clear hlk
    rintro e w'' ⟨hG, ⟨hs, rfl, hR⟩ | ⟨hs, rfl⟩⟩
    rotate_left 1
    · have hf : F.2 = true := by rw [HF.out]; exact rdS_flag_le hs (by decide)
      exact ⟨rfl, kB.trans hG, Or.inr ⟨hf, rfl⟩⟩
    have hBb := hG.from hB hg
    refine hK _ _ ⟨e0, e1, .int .i64 x0, .agg #[.int .i64 x0, .int .i64 who], (.pointer (some ⟨gr, 0, none⟩)), .int .i64 x1, e6, ?_, hBb, c0, c1, fun _ => ⟨hs1, rfl, fun h => Bool.noConfusion (show true = false from h)⟩, fun _ => ⟨h2, rfl⟩, c4, fun _ => ⟨hs, rfl, h2, hR⟩, c6, fun h => absurd ((c7 h).2.2.1.symm.trans hd) (by decide), kE.butG hG, kB.trans hG, fun h => (kM h).butG hG (by omega), fun h => absurd (h2.symm.trans h) (by decide)⟩
    simp only [putAll, Act.put, List.setIfInBounds_toArray, List.set_cons_zero, List.set_cons_succ]
    all_goals rfl
  | 6, _, hd, hk =>
    have h3 : d 3 = true := hk 3 (by decide +kernel)
    have h5 : d 5 = true := hk 5 (by decide +kernel)
    obtain ⟨h2, rfl⟩ := c3 h3
    obtain ⟨hs1, rfl, hR1⟩ := c2 h2
    obtain ⟨hs2, rfl, -, hR2⟩ := c5 h5
    apply wpOp_at
    case ho => rfl
    intro K hK
    simp only [putAll, Act.put, List.setIfInBounds_toArray, List.set_cons_zero, List.set_cons_succ]
    go_simp
    refine hK _ _ ⟨e0, e1, .int .i64 x0, .agg #[.int .i64 x0, .int .i64 who], e4, .int .i64 x1, .agg #[.int .i64 x0, .int .i64 who, .int .i64 x1], ?_, hB, c0, c1, fun _ => ⟨hs1, rfl, hR1⟩, fun _ => ⟨h2, rfl⟩, c4, fun _ => ⟨hs2, rfl, h2, hR2⟩, fun _ => rfl, c7, kE, kB, kM, kR⟩
    simp only [putAll, Act.put, List.setIfInBounds_toArray, List.set_cons_zero, List.set_cons_succ]
    all_goals rfl
  | 7, _, hd, hk =>
    have h0 : d 0 = true := hk 0 (by decide +kernel)
    have h1 : d 1 = true := hk 1 (by decide +kernel)
    have h2 : d 2 = true := hk 2 (by decide +kernel)
    have h3 : d 3 = true := hk 3 (by decide +kernel)
    have h4 : d 4 = true := hk 4 (by decide +kernel)
    have h5 : d 5 = true := hk 5 (by decide +kernel)
    have h6 : d 6 = true := hk 6 (by decide +kernel)
    obtain rfl := c0 h0
    obtain rfl := c1 h1
    obtain rfl := c4 h4
    obtain rfl := c6 h6
    obtain ⟨hs1, rfl, hR1⟩ := c2 h2
    obtain ⟨-, rfl⟩ := c3 h3
    obtain ⟨hs2, rfl, -, hR2⟩ := c5 h5
    have kM := kM hd
    have m0 := kM.cell 0
    have m1 := kM.cell 1
    have m2 := kM.cell 2
    have n0 := kM.free 0
    have n1 := kM.free 1
    have n2 := kM.free 2
    apply wpOp_at
    case ho => rfl
    intro K hK
    simp only [putAll, Act.put, List.setIfInBounds_toArray, List.set_cons_zero, List.set_cons_succ]
    go_simp
    have hW3 : Whole (((w'.setCell ⟨W.heap.size, 0, none⟩ (.int .i64 x0)).setCell ⟨W.heap.size, 1, none⟩ (.int .i64 who)).setCell ⟨W.heap.size, 2, none⟩ (.int .i64 x1)) W.heap.size 57 (rqCells ⟨x0, who, x1⟩) := by have h := ((kM.set 0 (.int .i64 x0)).set 1 (.int .i64 who)).set 2 (.int .i64 x1); simpa only [List.setIfInBounds_toArray, List.set_cons_zero, List.set_cons_succ] using h
    have hE3 : ∀ (u : Value) (i : Nat) (q : World), EnvK gr gp gw go who q → EnvK gr gp gw go who (q.setCell ⟨W.heap.size, i, none⟩ u) := fun u i q h => ⟨h.1, h.2.1.other (p := ⟨W.heap.size, i, none⟩) (by show _ ≠ W.heap.size; omega) u, h.2.2.1.other (p := ⟨W.heap.size, i, none⟩) (by show _ ≠ W.heap.size; omega) u, h.2.2.2.other (p := ⟨W.heap.size, i, none⟩) (by show _ ≠ W.heap.size; omega) u⟩
    refine hK _ _ ⟨(.func (.func 48) #[] #[.pointer (some ⟨gw, 0, none⟩)]), (.pointer (some ⟨gr, 0, none⟩)), .int .i64 x0, .agg #[.int .i64 x0, .int .i64 who], (.pointer (some ⟨gr, 0, none⟩)), .int .i64 x1, .agg #[.int .i64 x0, .int .i64 who, .int .i64 x1], ?_, ((hB.setCell (p := ⟨W.heap.size, 0, none⟩) (by show _ ≤ W.heap.size; omega) _).setCell (p := ⟨W.heap.size, 1, none⟩) (by show _ ≤ W.heap.size; omega) _).setCell (p := ⟨W.heap.size, 2, none⟩) (by show _ ≤ W.heap.size; omega) _, c0, c1, fun _ => ⟨hs1, rfl, fun h => absurd (h5.symm.trans h) (by decide)⟩, fun _ => ⟨h2, rfl⟩, c4, fun _ => ⟨hs2, rfl, h2, ((hR2.set (p := ⟨W.heap.size, 0, none⟩) (by show W.heap.size ≠ gr; omega) _).set (p := ⟨W.heap.size, 1, none⟩) (by show W.heap.size ≠ gr; omega) _).set (p := ⟨W.heap.size, 2, none⟩) (by show W.heap.size ≠ gr; omega) _⟩, fun _ => rfl, fun _ => ⟨h2, h3, h5, hW3⟩, hE3 _ _ _ (hE3 _ _ _ (hE3 _ _ _ kE)), ((kB.own (p := ⟨W.heap.size, 0, none⟩) (Nat.le_refl _) _).own (p := ⟨W.heap.size, 1, none⟩) (Nat.le_refl _) _).own (p := ⟨W.heap.size, 2, none⟩) (Nat.le_refl _) _, fun h => Bool.noConfusion (show true = false from h), fun h => absurd ((hk 2 (by decide +kernel)).symm.trans h) (by decide)⟩
    simp only [putAll, Act.put, List.setIfInBounds_toArray, List.set_cons_zero, List.set_cons_succ]
    all_goals rfl
  | k + 8, hi, _, _ => exact absurd hi (by simp)
 case ends =>
  intro d a' w' hJ hall
  obtain ⟨e0, e1, e2, e3, e4, e5, e6, rfl, hC⟩ := hJ
  obtain ⟨hB, hC⟩ := hC
  obtain ⟨c0, hC⟩ := hC
  obtain ⟨c1, hC⟩ := hC
  obtain ⟨c2, hC⟩ := hC
  obtain ⟨c3, hC⟩ := hC
  obtain ⟨c4, hC⟩ := hC
  obtain ⟨c5, hC⟩ := hC
  obtain ⟨c6, hC⟩ := hC
  obtain ⟨c7, hC⟩ := hC
  obtain ⟨kE, hC⟩ := hC
  obtain ⟨kB, hC⟩ := hC
  obtain ⟨kM, hC⟩ := hC
  have kR := hC
  clear hC
  obtain ⟨-, -, h5, HM⟩ := c7 (hall 7 (by decide +kernel))
  obtain ⟨hs2, -, -, hR2⟩ := c5 h5
  have q0 := HM.cell 0
  have q1 := HM.cell 1
  have q2 := HM.cell 2
  have HK : Hid (ButG gr W w' ∧ Rd w0 gr (rdS (z, false) 2).1 w') := ⟨kB, hR2⟩
  clear c0 c1 c2 c3 c4 c5 c6 c7 kE kB kM kR hall hB hR2
  simp only [putAll, Act.put, List.setIfInBounds_toArray, List.set_cons_zero, List.set_cons_succ]
  go_wp2_with fail
  refine bodyPost_ret (v := .agg #[.int .i64 x0, .int .i64 who, .int .i64 x1]) (by simp [results, Try.results51, go_sem, q0, q1, q2]) rfl ⟨HK.out.1, Or.inl ⟨by rw [HF.out]; exact hs2, rfl, by rw [HF.out]; exact HK.out.2⟩⟩
end Go.Proofs.Ytnkgakhnlbifdaa
namespace Go.Proofs.Ytnkgakhnlbifdaa
open Go.RowKit
theorem bytesN_atleast (l : List Nat) : l.length ≤ (bytesN l).length := by
 induction l with
 | nil => exact Nat.zero_le _
 | cons v l ih =>
   rw [bytesN_cons, List.length_append, List.length_cons]
   have := PackMath.num_pos v
   omega
theorem rdS_atleast {z : List Int} {k : Nat} (h : (rdS (z, false) k).2 = false) : k ≤ z.length := by
 have h1 := congrArg List.length (rd_back k h).2
 rw [List.length_append] at h1
 have h2 := bytesN_atleast ((List.range k).map fun j => u64n (rdX (z, false) j))
 rw [List.length_map, List.length_range] at h2
 omega
theorem own_butG {gr : Nat} {w w' : World} {base : Nat} {t : TypeId} {sz k : Nat} {v : Value} {l : List Value} (h : w.ownsRow base t sz v k l) (hb : ButG gr w w') (hg : gr < base) : w'.ownsRow base t sz v k l := by
 refine ⟨h.1, ?_⟩
 rcases h.2 with h2 | ⟨g, cap, cur, e, h3, h4, h5⟩
 · exact Or.inl h2
 · exact Or.inr ⟨g, cap, cur, e, h3, (hb.2 g (Array.getElem?_eq_some_iff.1 h4).1 (by omega)).trans h4, h5⟩
theorem own_bounds {w : World} {base : Nat} {e : TypeId} {s n : Nat} {v : Value} {f : Nat → Nat → Value} (h : w.ownsRow base e s v n (flatCells s n f)) (hn : n ≤ 9223372036854775807) : ∃ A C, v = .slice A n C ∧ Elems w (.slice A n C) s n f ∧ ∀ ad, A = some ad → base ≤ ad.block := by
 obtain ⟨A, C, hv, _, he⟩ := elems_of_own h hn
 refine ⟨A, C, hv, he, fun ad had => ?_⟩
 subst hv
 subst had
 rcases h.2 with ⟨h0, _⟩ | ⟨g, cap, cur, e2, hb, _⟩
 · exact absurd h0 (by simp)
 · simp only [Value.slice.injEq, Option.some.injEq] at e2
   rw [e2.1]
   exact hb
def ReadsL (w0 : World) (gr : Nat) (W : World) (s : List Int × Bool) (n : Nat) (P : World → Value → Prop) (e : Ending) (w' : World) : Prop :=
 ButG gr W w' ∧ ((s.2 = false ∧ (∃ A C, e = .returned (.slice A n C) ∧ P w' (.slice A n C) ∧ ∀ ad, A = some ad → W.heap.size ≤ ad.block) ∧ Rd w0 gr s.1 w') ∨ (s.2 = true ∧ e = wrongE))
theorem req_more {w : World} {base g : Nat} {v : Value} {E : List Rq} {k : Nat} {x : Rq} (hE : rqAt E k = x) (hown : w.ownsRow base 68 3 v k (flatCells 3 k (fun i j => rqc (rqAt E i) j))) (hW : Whole w g 68 (rqCells x)) (hk : k ≤ 1000000000000) (hb : base ≤ w.heap.size) :
 ∃ A C w', (Builtin.append_ #[26, 26] 26 #[v, .slice (some ⟨g, 0, none⟩) 1 1]).run Try.prog w = .ok (.slice A (k + 1) C) w' ∧
   w'.ownsRow base 68 3 (.slice A (k + 1) C) (k + 1) (flatCells 3 (k + 1) (fun i j => rqc (rqAt E i) j)) ∧ Below base w w' ∧ Grew w w' v (.slice A (k + 1) C) := by
 obtain ⟨i0, hi, hz0, hz1, hz2⟩ := info_parts info_req
 obtain ⟨v', w', hrun, q1, q2, q3⟩ := run_append_elems (P := Try.prog) (w := w) 26 26 base 68 i0 _ 3 24 Try.underlying26 hi hz0 hz1 hz2 rfl (by decide)
  v k (fun i j => rqc (rqAt E i) j) hown (some ⟨g, 0, none⟩) 1 1 (fun _ j => rqc x j) (three_one hW) (fun _ _ _ _ => rqc_plain _ _) (by unfold maxLen; omega) (by omega) hb
 rw [flat_ext3 (g := fun i j => rqc (rqAt E i) j) (fun i j hi _ => by
  by_cases h : i < k
  · simp only [if_pos h]
  · obtain rfl : i = k := by omega
    simp only [Nat.lt_irrefl, if_false]
    rw [hE])] at q1
 obtain ⟨A, C, rfl, _⟩ := elems_of_own q1 (by omega)
 exact ⟨A, C, w', hrun, q1, q2, q3⟩
theorem out_more {w : World} {base g : Nat} {v : Value} {E : List Rq} {k : Nat} {x : Rq} (hE : rqAt E k = x) (hown : w.ownsRow base 57 3 v k (flatCells 3 k (fun i j => rqc (rqAt E i) j))) (hW : Whole w g 57 (rqCells x)) (hk : k ≤ 1000000000000) (hb : base ≤ w.heap.size) :
 ∃ A C w', (Builtin.append_ #[27, 27] 27 #[v, .slice (some ⟨g, 0, none⟩) 1 1]).run Try.prog w = .ok (.slice A (k + 1) C) w' ∧
   w'.ownsRow base 57 3 (.slice A (k + 1) C) (k + 1) (flatCells 3 (k + 1) (fun i j => rqc (rqAt E i) j)) ∧ Below base w w' ∧ Grew w w' v (.slice A (k + 1) C) := by
 obtain ⟨i0, hi, hz0, hz1, hz2⟩ := info_parts info_out
 obtain ⟨v', w', hrun, q1, q2, q3⟩ := run_append_elems (P := Try.prog) (w := w) 27 27 base 57 i0 _ 3 24 Try.underlying27 hi hz0 hz1 hz2 rfl (by decide)
  v k (fun i j => rqc (rqAt E i) j) hown (some ⟨g, 0, none⟩) 1 1 (fun _ j => rqc x j) (three_one hW) (fun _ _ _ _ => rqc_plain _ _) (by unfold maxLen; omega) (by omega) hb
 rw [flat_ext3 (g := fun i j => rqc (rqAt E i) j) (fun i j hi _ => by
  by_cases h : i < k
  · simp only [if_pos h]
  · obtain rfl : i = k := by omega
    simp only [Nat.lt_irrefl, if_false]
    rw [hE])] at q1
 obtain ⟨A, C, rfl, _⟩ := elems_of_own q1 (by omega)
 exact ⟨A, C, w', hrun, q1, q2, q3⟩
attribute [local go_sem ↓] run_fine in
set_option maxRecDepth 100000 in
set_option maxHeartbeats 8000000 in
theorem ksomeR_calls (w0 : World) (gr gp gw go : Nat) (who : Int) (z : List Int) (W : World) (n : Nat) (hR : Rd w0 gr z W) (hb : Below w0.heap.size w0 W) (hg : w0.heap.size ≤ gr) (hE : EnvK gr gp gw go who W) (hlen : z.length ≤ 1000000000000) (hn : n < 18446744073709551616) :
 Calls Try.prog 53 #[.int .u64 (n : Int), .func (.func 49) #[] #[.pointer (some ⟨go, 0, none⟩), .pointer (some ⟨gp, 0, none⟩)]] W (ReadsL w0 gr W (rdS (z, false) (2 * n)) n (fun w' v => Line w' v (mkP who (rdX (z, false)) n))) := by
 have hgr : gr < W.heap.size := hR.lt
 obtain ⟨E, HE⟩ : ∃ q, Hid (q = mkP who (rdX (z, false)) n) := ⟨_, rfl⟩
 rw [← HE.out]
 have Hlen := Lib.hid hlen; clear hlen
 have Hn := Lib.hid hn; clear hn
 have Hb := Lib.hid hb; clear hb
 have HR := Lib.hid hR; clear hR
 have HV := Lib.hid hgr
 go_enter Try.func53, Try.ntmps53
 go_wp2_with fail
 go_loopw [4, 6] (fun s4 s6 wr => ∃ k : Nat, k ≤ n ∧ s6 = .int .u64 (k : Int) ∧ Hid (ButG gr W wr) ∧ Hid ((rdS (z, false) (2 * k)).2 = false) ∧ Hid (Rd w0 gr (rdS (z, false) (2 * k)).1 wr) ∧ Hid (wr.ownsRow W.heap.size 68 3 s4 k (flatCells 3 k (fun i j => rqc (rqAt E i) j)))) (fun _ s6 _ => n - (intOf s6).toNat)
 case atStart => exact ⟨0, Nat.zero_le _, rfl, ButG.refl _ _, rfl, HR.out, World.ownsRow_nil _ _ _ _⟩
 case round =>
  obtain ⟨k, hk, rfl, HB, HS, HRk, HO⟩ := hrel
  by_cases hkm : k < n
  · have hkl : 2 * k ≤ z.length := rdS_atleast HS.out
    have hk12 : k ≤ 1000000000000 := by have := Hlen.out; omega
    obtain ⟨x, Hx⟩ : ∃ q, Hid (rqAt E k = q) := ⟨_, rfl⟩
    have hlk := kreq_calls w0 gr gp gw go who (rdS (z, false) (2 * k)).1 wr HRk.out (HB.out.from Hb.out hg) hg (hE.butG HB.out)
    rw [show ((rdS (z, false) (2 * k)).1, false) = rdS (z, false) (2 * k) from Prod.ext rfl HS.out.symm, rdS_add, rdX_add, rdX_add] at hlk
    have hx : (⟨rdX (z, false) (2 * k + 0), who, rdX (z, false) (2 * k + 1)⟩ : Rq) = x := by
     rw [← Hx.out, HE.out]
     unfold mkP rqAt
     rw [List.getElem?_map, List.getElem?_range hkm]
     rfl
    rw [show rqCells ⟨rdX (z, false) (2 * k + 0), who, rdX (z, false) (2 * k + 1)⟩ = rqCells x by rw [hx]] at hlk
    have j1 : (k : Int) < (n : Int) := by omega
    have hn64 : (n : Int) < 18446744073709551616 := by have := Hn.out; omega
    have HLK := Lib.hid hlk
    clear hlk hx
    go_wp2_with fail
    refine HLK.out.mono ?_
    rintro e w1 ⟨hG, ⟨hs, rfl, hR⟩ | ⟨hs, rfl⟩⟩
    rotate_left 1
    · have hf : (rdS (z, false) (2 * n)).2 = true := rdS_flag_le hs (by omega)
      have HB9 := Lib.hid (HB.out.trans hG)
      clear hs hG HLK
      go_wp2_with fail
      exact ⟨rfl, HB9.out, Or.inr ⟨hf, rfl⟩⟩
    have HO1 := Lib.hid (own_later (own_butG HO.out hG hgr) (below_box w1 (.cells (rqCells x) 68)))
    have hbase : W.heap.size ≤ w1.heap.size := Nat.le_trans HB.out.size hG.size
    obtain ⟨A9, C9, w9, hrun, q1, q2, q3⟩ := req_more (E := E) (k := k) (x := x) Hx.out HO1.out (Whole.made w1 68 (rqCells x)) hk12 (Nat.le_trans hbase (below_box w1 _).size)
    obtain ⟨hf5, hv5, hw5⟩ := fine_of hrun
    have HB9 := Lib.hid (((HB.out.trans hG).next (below_box w1 (.cells (rqCells x) 68))).grown q2)
    have HR9 : Hid (Rd w0 gr (rdS (z, false) (2 * (k + 1))).1 w9) := by
     show Rd _ _ _ _
     rw [show 2 * (k + 1) = 2 * k + 2 by omega]
     obtain ⟨v, r1, r2⟩ := hR
     exact ⟨v, (r1.later (below_box w1 _) r1.lt).later q2 hgr, r2⟩
    have HS9 : Hid ((rdS (z, false) (2 * (k + 1))).2 = false) := by show _ = _; rw [show 2 * (k + 1) = 2 * k + 2 by omega]; exact hs
    have HO9 := Lib.hid q1
    clear q1 q2 q3 hrun hs hR hG HO1 HO HRk HB HLK hkl hbase
    go_wp2_with fail
    go_roundw
    case rel => exact ⟨k + 1, by omega, by go_num, HB9.out, HS9.out, HR9.out, HO9.out⟩
    case measure => simp [intOf]; omega
  · obtain rfl : k = n := by omega
    have hl := rdS_atleast HS.out
    have hl2 := Hlen.out
    obtain ⟨A9, C9, hv9, hE9, hA9⟩ := own_bounds HO.out (by omega)
    subst hv9
    have HE9 : Hid (Line wr (.slice A9 k C9) E) := by
     show Elems _ _ _ _ _
     rw [show E.length = k by rw [HE.out]; exact mkP_len _ _ _]
     exact hE9
    clear hE9 hl hl2
    go_wp2_with fail
    go_ret
    exact ⟨HB.out, Or.inl ⟨HS.out, ⟨A9, C9, rfl, HE9.out, hA9⟩, HRk.out⟩⟩
attribute [local go_sem ↓] run_fine in
set_option maxRecDepth 100000 in
set_option maxHeartbeats 8000000 in
theorem ksomeO_calls (w0 : World) (gr gp gw go : Nat) (who : Int) (z : List Int) (W : World) (n : Nat) (hR : Rd w0 gr z W) (hb : Below w0.heap.size w0 W) (hg : w0.heap.size ≤ gr) (hE : EnvK gr gp gw go who W) (hlen : z.length ≤ 1000000000000) (hn : n < 18446744073709551616) :
 Calls Try.prog 55 #[.int .u64 (n : Int), .func (.func 51) #[] #[.pointer (some ⟨go, 0, none⟩), .pointer (some ⟨gp, 0, none⟩)]] W (ReadsL w0 gr W (rdS (z, false) (2 * n)) n (fun w' v => Line w' v (mkP who (rdX (z, false)) n))) := by
 have hgr : gr < W.heap.size := hR.lt
 obtain ⟨E, HE⟩ : ∃ q, Hid (q = mkP who (rdX (z, false)) n) := ⟨_, rfl⟩
 rw [← HE.out]
 have Hlen := Lib.hid hlen; clear hlen
 have Hn := Lib.hid hn; clear hn
 have Hb := Lib.hid hb; clear hb
 have HR := Lib.hid hR; clear hR
 have HV := Lib.hid hgr
 go_enter Try.func55, Try.ntmps55
 go_wp2_with fail
 go_loopw [4, 6] (fun s4 s6 wr => ∃ k : Nat, k ≤ n ∧ s6 = .int .u64 (k : Int) ∧ Hid (ButG gr W wr) ∧ Hid ((rdS (z, false) (2 * k)).2 = false) ∧ Hid (Rd w0 gr (rdS (z, false) (2 * k)).1 wr) ∧ Hid (wr.ownsRow W.heap.size 57 3 s4 k (flatCells 3 k (fun i j => rqc (rqAt E i) j)))) (fun _ s6 _ => n - (intOf s6).toNat)
 case atStart => exact ⟨0, Nat.zero_le _, rfl, ButG.refl _ _, rfl, HR.out, World.ownsRow_nil _ _ _ _⟩
 case round =>
  obtain ⟨k, hk, rfl, HB, HS, HRk, HO⟩ := hrel
  by_cases hkm : k < n
  · have hkl : 2 * k ≤ z.length := rdS_atleast HS.out
    have hk12 : k ≤ 1000000000000 := by have := Hlen.out; omega
    obtain ⟨x, Hx⟩ : ∃ q, Hid (rqAt E k = q) := ⟨_, rfl⟩
    have hlk := kout_calls w0 gr gp gw go who (rdS (z, false) (2 * k)).1 wr HRk.out (HB.out.from Hb.out hg) hg (hE.butG HB.out)
    rw [show ((rdS (z, false) (2 * k)).1, false) = rdS (z, false) (2 * k) from Prod.ext rfl HS.out.symm, rdS_add, rdX_add, rdX_add] at hlk
    have hx : (⟨rdX (z, false) (2 * k + 0), who, rdX (z, false) (2 * k + 1)⟩ : Rq) = x := by
     rw [← Hx.out, HE.out]
     unfold mkP rqAt
     rw [List.getElem?_map, List.getElem?_range hkm]
     rfl
    rw [show rqCells ⟨rdX (z, false) (2 * k + 0), who, rdX (z, false) (2 * k + 1)⟩ = rqCells x by rw [hx]] at hlk
    have j1 : (k : Int) < (n : Int) := by omega
    have hn64 : (n : Int) < 18446744073709551616 := by have := Hn.out; omega
    have HLK := Lib.hid hlk
    clear hlk hx
    go_wp2_with fail
    refine HLK.out.mono ?_
    rintro e w1 ⟨hG, ⟨hs, rfl, hR⟩ | ⟨hs, rfl⟩⟩
    rotate_left 1
    · have hf : (rdS (z, false) (2 * n)).2 = true := rdS_flag_le hs (by omega)
      have HB9 := Lib.hid (HB.out.trans hG)
      clear hs hG HLK
      go_wp2_with fail
      exact ⟨rfl, HB9.out, Or.inr ⟨hf, rfl⟩⟩
    have HO1 := Lib.hid (own_later (own_butG HO.out hG hgr) (below_box w1 (.cells (rqCells x) 57)))
    have hbase : W.heap.size ≤ w1.heap.size := Nat.le_trans HB.out.size hG.size
    obtain ⟨A9, C9, w9, hrun, q1, q2, q3⟩ := out_more (E := E) (k := k) (x := x) Hx.out HO1.out (Whole.made w1 57 (rqCells x)) hk12 (Nat.le_trans hbase (below_box w1 _).size)
    obtain ⟨hf5, hv5, hw5⟩ := fine_of hrun
    have HB9 := Lib.hid (((HB.out.trans hG).next (below_box w1 (.cells (rqCells x) 57))).grown q2)
    have HR9 : Hid (Rd w0 gr (rdS (z, false) (2 * (k + 1))).1 w9) := by
     show Rd _ _ _ _
     rw [show 2 * (k + 1) = 2 * k + 2 by omega]
     obtain ⟨v, r1, r2⟩ := hR
     exact ⟨v, (r1.later (below_box w1 _) r1.lt).later q2 hgr, r2⟩
    have HS9 : Hid ((rdS (z, false) (2 * (k + 1))).2 = false) := by show _ = _; rw [show 2 * (k + 1) = 2 * k + 2 by omega]; exact hs
    have HO9 := Lib.hid q1
    clear q1 q2 q3 hrun hs hR hG HO1 HO HRk HB HLK hkl hbase
    go_wp2_with fail
    go_roundw
    case rel => exact ⟨k + 1, by omega, by go_num, HB9.out, HS9.out, HR9.out, HO9.out⟩
    case measure => simp [intOf]; omega
  · obtain rfl : k = n := by omega
    have hl := rdS_atleast HS.out
    have hl2 := Hlen.out
    obtain ⟨A9, C9, hv9, hE9, hA9⟩ := own_bounds HO.out (by omega)
    subst hv9
    have HE9 : Hid (Line wr (.slice A9 k C9) E) := by
     show Elems _ _ _ _ _
     rw [show E.length = k by rw [HE.out]; exact mkP_len _ _ _]
     exact hE9
    clear hE9 hl hl2
    go_wp2_with fail
    go_ret
    exact ⟨HB.out, Or.inl ⟨HS.out, ⟨A9, C9, rfl, HE9.out, hA9⟩, HRk.out⟩⟩
attribute [local go_sem ↓] run_fine in
set_option maxRecDepth 100000 in
set_option maxHeartbeats 8000000 in
theorem ksomeN_calls (w0 : World) (gr : Nat) (z : List Int) (W : World) (n : Nat) (hR : Rd w0 gr z W) (hb : Below w0.heap.size w0 W) (hg : w0.heap.size ≤ gr) (hn16 : n ≤ 16) (hlen : z.length ≤ 1000000000000) (hn : n < 18446744073709551616) :
 Calls Try.prog 56 #[.int .u64 (n : Int), .func (.func 57) #[.pointer (some ⟨gr, 0, none⟩)] #[]] W (ReadsL w0 gr W (rdS (z, false) (7 * n)) n (fun w' v => Notes w' v (mkT (rdX (z, false)) n))) := by
 have hgr : gr < W.heap.size := hR.lt
 obtain ⟨E, HE⟩ : ∃ q, Hid (q = mkT (rdX (z, false)) n) := ⟨_, rfl⟩
 rw [← HE.out]
 have Hlen := Lib.hid hlen; clear hlen
 have Hn := Lib.hid hn; clear hn
 have Hb := Lib.hid hb; clear hb
 have HR := Lib.hid hR; clear hR
 have HV := Lib.hid hgr
 go_enter Try.func56, Try.ntmps56
 go_wp2_with fail
 go_loopw [4, 6] (fun s4 s6 wr => ∃ k : Nat, k ≤ n ∧ s6 = .int .u64 (k : Int) ∧ Hid (ButG gr W wr) ∧ Hid ((rdS (z, false) (7 * k)).2 = false) ∧ Hid (Rd w0 gr (rdS (z, false) (7 * k)).1 wr) ∧ Hid (wr.ownsRow W.heap.size 70 7 s4 k (flatCells 7 k (fun i j => ntc (ntAt E i) j)))) (fun _ s6 _ => n - (intOf s6).toNat)
 case atStart => exact ⟨0, Nat.zero_le _, rfl, ButG.refl _ _, rfl, HR.out, World.ownsRow_nil _ _ _ _⟩
 case round =>
  obtain ⟨k, hk, rfl, HB, HS, HRk, HO⟩ := hrel
  by_cases hkm : k < n
  · have hkl : 7 * k ≤ z.length := rdS_atleast HS.out
    have hk12 : k ≤ 1000 := by omega
    obtain ⟨x, Hx⟩ : ∃ q, Hid (ntAt E k = q) := ⟨_, rfl⟩
    have hlk := knote_calls w0 gr (rdS (z, false) (7 * k)).1 wr HRk.out (HB.out.from Hb.out hg) hg
    rw [show ((rdS (z, false) (7 * k)).1, false) = rdS (z, false) (7 * k) from Prod.ext rfl HS.out.symm, rdS_add, rdX_add, rdX_add, rdX_add, rdX_add, rdX_add, rdX_add, rdX_add] at hlk
    have hx : (⟨rdX (z, false) (7 * k + 0), rdX (z, false) (7 * k + 1), rdX (z, false) (7 * k + 2), rdX (z, false) (7 * k + 3), rdX (z, false) (7 * k + 4), rdX (z, false) (7 * k + 5), rdX (z, false) (7 * k + 6)⟩ : Nt) = x := by
     rw [← Hx.out, HE.out]
     unfold mkT ntAt
     rw [List.getElem?_map, List.getElem?_range hkm]
     rfl
    rw [show (#[.int .i64 (rdX (z, false) (7 * k + 0)), .int .i64 (rdX (z, false) (7 * k + 1)), .int .i64 (rdX (z, false) (7 * k + 2)), .int .i64 (rdX (z, false) (7 * k + 3)), .int .i64 (rdX (z, false) (7 * k + 4)), .int .i64 (rdX (z, false) (7 * k + 5)), .int .i64 (rdX (z, false) (7 * k + 6))] : Array Value) = ntCells x by rw [← hx]] at hlk
    have j1 : (k : Int) < (n : Int) := by omega
    have hn64 : (n : Int) < 18446744073709551616 := by have := Hn.out; omega
    have HLK := Lib.hid hlk
    clear hlk hx
    go_wp2_with fail
    refine HLK.out.mono ?_
    rintro e w1 ⟨hG, ⟨hs, rfl, hR⟩ | ⟨hs, rfl⟩⟩
    rotate_left 1
    · have hf : (rdS (z, false) (7 * n)).2 = true := rdS_flag_le hs (by omega)
      have HB9 := Lib.hid (HB.out.trans hG)
      clear hs hG HLK
      go_wp2_with fail
      exact ⟨rfl, HB9.out, Or.inr ⟨hf, rfl⟩⟩
    have HO1 := Lib.hid (own_later (own_butG HO.out hG hgr) (below_box w1 (.cells (ntCells x) 70)))
    have hbase : W.heap.size ≤ w1.heap.size := Nat.le_trans HB.out.size hG.size
    obtain ⟨A9, C9, w9, hrun, q1, q2, q3⟩ := nt_push_at (E := E) (k := k) (x := x) Hx.out HO1.out (Whole.made w1 70 (ntCells x)) hk12 (Nat.le_trans hbase (below_box w1 _).size)
    obtain ⟨hf5, hv5, hw5⟩ := fine_of hrun
    have HB9 := Lib.hid (((HB.out.trans hG).next (below_box w1 (.cells (ntCells x) 70))).grown q2)
    have HR9 : Hid (Rd w0 gr (rdS (z, false) (7 * (k + 1))).1 w9) := by
     show Rd _ _ _ _
     rw [show 7 * (k + 1) = 7 * k + 7 by omega]
     obtain ⟨v, r1, r2⟩ := hR
     exact ⟨v, (r1.later (below_box w1 _) r1.lt).later q2 hgr, r2⟩
    have HS9 : Hid ((rdS (z, false) (7 * (k + 1))).2 = false) := by show _ = _; rw [show 7 * (k + 1) = 7 * k + 7 by omega]; exact hs
    have HO9 := Lib.hid q1
    clear q1 q2 q3 hrun hs hR hG HO1 HO HRk HB HLK hkl hbase
    go_wp2_with fail
    go_roundw
    case rel => exact ⟨k + 1, by omega, by go_num, HB9.out, HS9.out, HR9.out, HO9.out⟩
    case measure => simp [intOf]; omega
  · obtain rfl : k = n := by omega
    have hl := rdS_atleast HS.out
    have hl2 := Hlen.out
    obtain ⟨A9, C9, hv9, hE9, hA9⟩ := own_bounds HO.out (by omega)
    subst hv9
    have HE9 : Hid (Notes wr (.slice A9 k C9) E) := by
     show Elems _ _ _ _ _
     rw [show E.length = k by rw [HE.out]; exact mkT_len _ _]
     exact hE9
    clear hE9 hl hl2
    go_wp2_with fail
    go_ret
    exact ⟨HB.out, Or.inl ⟨HS.out, ⟨A9, C9, rfl, HE9.out, hA9⟩, HRk.out⟩⟩
end Go.Proofs.Ytnkgakhnlbifdaa
