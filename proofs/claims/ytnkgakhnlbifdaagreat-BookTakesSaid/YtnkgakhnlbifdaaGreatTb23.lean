/- Parts, as far as BookTakesCards reaches them, of: BookItem. No law is proved here. -/
import Derived.Test.YtnkgakhnlbifdaaGreatTb21
import Derived.Test.YtnkgakhnlbifdaaGreatTb1
import Derived.Test.YtnkgakhnlbifdaaGreatTb6
import Derived.Laws.EntriesVeiled
import Derived.Test.YtnkgakhnlbifdaaGreatTbQ
namespace Go.Proofs.YtnkgakhnlbifdaaGreat
open Go.RowKit
def EnvK (gr gp gw go : Nat) (who : Int) (W : World) : Prop :=
 (gp ≠ gr ∧ gw ≠ gr ∧ go ≠ gr) ∧ Whole W gp 95 #[.pointer (some ⟨gr, 0, none⟩)] ∧ Whole W gw 3 #[.int .i64 who] ∧ Whole W go 96 #[.func (.func 57) #[] #[.pointer (some ⟨gw, 0, none⟩)]]
theorem EnvK.butG {gr gp gw go : Nat} {who : Int} {W w : World} (h : EnvK gr gp gw go who W) (k : ButG gr W w) : EnvK gr gp gw go who w := ⟨h.1, h.2.1.butG k h.1.1, h.2.2.1.butG k h.1.2.1, h.2.2.2.butG k h.1.2.2⟩
theorem EnvK.later {gr gp gw go : Nat} {who : Int} {W w : World} (h : EnvK gr gp gw go who W) (hb : Below W.heap.size W w) : EnvK gr gp gw go who w := ⟨h.1, h.2.1.later hb h.2.1.lt, h.2.2.1.later hb h.2.2.1.lt, h.2.2.2.later hb h.2.2.2.lt⟩
set_option maxRecDepth 100000 in
set_option maxHeartbeats 4000000 in
theorem kown_calls (gw : Nat) (who t : Int) (W : World) (h : Whole W gw 3 #[.int .i64 who]) :
 Calls Tryz.prog 57 #[.int .i64 t, .pointer (some ⟨gw, 0, none⟩)] W (fun e w' => e = .returned (.agg #[.int .i64 t, .int .i64 who]) ∧ Below W.heap.size W w') := by
 have hw1 := (h.later (below_box W (.cells #[.int .i64 0, .int .i64 0] 65)) h.lt).cell 0
 have hlt := h.lt
 clear h
 go_enter Tryz.func57, Tryz.ntmps57
 go_wp2_with fail
 refine bodyPost_ret (v := .agg #[.int .i64 t, .int .i64 who]) (by simp [results, Tryz.results57, go_sem]) rfl ⟨rfl, ?_⟩
 exact below_box W _
set_option maxRecDepth 100000 in
set_option maxHeartbeats 8000000 in
theorem kreq_calls (w0 : World) (gr gp gw go : Nat) (who : Int) (z : List Int) (W : World) (hR : Rd w0 gr z W) (hb : Below w0.heap.size w0 W) (hg : w0.heap.size ≤ gr) (hE : EnvK gr gp gw go who W) :
 Calls Tryz.prog 58 #[.pointer (some ⟨go, 0, none⟩), .pointer (some ⟨gp, 0, none⟩)] W (Reads w0 gr W (rdS (z, false) 2) (.agg (rqCells ⟨rdX (z, false) 0, who, rdX (z, false) 1⟩))) := by
 have HB1 : Hid (ButG gr W (W.alloc (.cells #[.int .i64 0, .int .i64 0, .int .i64 0] 67))) := ButG.of (below_box _ _)
 have HR1 : Hid (Rd w0 gr z (W.alloc (.cells #[.int .i64 0, .int .i64 0, .int .i64 0] 67))) := hR.later (below_box _ _)
 have Hb1 : Hid (Below w0.heap.size w0 (W.alloc (.cells #[.int .i64 0, .int .i64 0, .int .i64 0] 67))) := held_next hb (below_box _ _)
 have HE1 : Hid (EnvK gr gp gw go who (W.alloc (.cells #[.int .i64 0, .int .i64 0, .int .i64 0] 67))) := hE.later (below_box _ _)
 have HM1 := Lib.hid (Whole.made W 67 #[.int .i64 0, .int .i64 0, .int .i64 0])
 have hgr : gr < W.heap.size := hR.lt
 have hgp : gp < W.heap.size := hE.2.1.lt
 have hgw : gw < W.heap.size := hE.2.2.1.lt
 have hgo : go < W.heap.size := hE.2.2.2.lt
 have h0W : w0.heap.size ≤ W.heap.size := hb.size
 obtain ⟨x0, Hx0⟩ : ∃ q, Hid (rdX (z, false) 0 = q) := ⟨_, rfl⟩
 obtain ⟨x1, Hx1⟩ : ∃ q, Hid (rdX (z, false) 1 = q) := ⟨_, rfl⟩
 rw [Hx0.out, Hx1.out]
 obtain ⟨F, HF⟩ : ∃ q, Hid (q = rdS (z, false) 2) := ⟨_, rfl⟩
 rw [← HF.out]
 clear hb hR hE
 go_enter Tryz.func58, Tryz.ntmps58
 go_wp2_with fail
 refine wp_region_each_at ?hm ?hb (fun a0 d a' w' => ∃ (e0 e1 e2 e3 e4 e5 e6 : Value), a' = putAll a0 [(3, e0), (4, e1), (5, e2), (6, e3), (7, e4), (8, e5), (9, e6)] ∧ Below w0.heap.size w0 w' ∧ (d 0 = true → e0 = (.func (.func 57) #[] #[.pointer (some ⟨gw, 0, none⟩)])) ∧ (d 1 = true → e1 = (.pointer (some ⟨gr, 0, none⟩))) ∧ (d 2 = true → ((rdS (z, false) 1).2 = false ∧ e2 = .int .i64 x0 ∧ (d 5 = false → Rd w0 gr (rdS (z, false) 1).1 w'))) ∧ (d 3 = true → (d 2 = true ∧ e3 = .agg #[.int .i64 x0, .int .i64 who])) ∧ (d 4 = true → e4 = (.pointer (some ⟨gr, 0, none⟩))) ∧ (d 5 = true → ((rdS (z, false) 2).2 = false ∧ e5 = .int .i64 x1 ∧ d 2 = true ∧ Rd w0 gr (rdS (z, false) 2).1 w')) ∧ (d 6 = true → (e6 = .agg #[.int .i64 x0, .int .i64 who, .int .i64 x1])) ∧ (d 7 = true → (d 2 = true ∧ d 3 = true ∧ d 5 = true ∧ Whole w' W.heap.size 67 (rqCells ⟨x0, who, x1⟩))) ∧ EnvK gr gp gw go who w' ∧ ButG gr W w' ∧ (d 7 = false → Whole w' W.heap.size 67 #[.int .i64 0, .int .i64 0, .int .i64 0]) ∧ (d 2 = false → Rd w0 gr z w')) ?h0 ?step ?ends
 case hm => kernel_rfl
 case hb => kernel_rfl
 case h0 =>
  refine ⟨undef, undef, undef, undef, undef, undef, undef, ?_, Hb1.out.drew, fun h => absurd h (by decide), fun h => absurd h (by decide), fun h => absurd h (by decide), fun h => absurd h (by decide), fun h => absurd h (by decide), fun h => absurd h (by decide), fun h => absurd h (by decide), fun h => absurd h (by decide), HE1.out.later (Below.refl _ _).drew, HB1.out.next (Below.refl _ _).drew, fun _ => HM1.out.drew, fun _ => HR1.out.later (Below.refl _ _).drew⟩
  simp only [putAll, Act.put, qA, qB, qC]
 case step =>
  intro i d a' w' hi hJ hd hk
  obtain ⟨e0, e1, e2, e3, e4, e5, e6, rfl, hC⟩ := hJ
  obtain ⟨hB, hC⟩ := hC
  obtain ⟨c0, hC⟩ := hC
  obtain ⟨c1, hC⟩ := hC
  obtain ⟨c2, hC⟩ := hC
  obtain ⟨c3, hC⟩ := hC
  obtain ⟨c4, hC⟩ := hC
  obtain ⟨c5, hC⟩ := hC
  obtain ⟨c6, hC⟩ := hC
  obtain ⟨c7, hC⟩ := hC
  obtain ⟨kE, hC⟩ := hC
  obtain ⟨kB, hC⟩ := hC
  obtain ⟨kM, hC⟩ := hC
  have kR := hC
  clear hC
  match i, hi, hd, hk with
  | 0, _, hd, hk =>
    have hc0 := kE.2.2.2.cell 0
    apply wpOp_at
    case ho => rfl
    intro K hK
    simp only [putAll, Act.put, qA, qB, qC]
    go_simp
    refine hK _ _ ⟨(.func (.func 57) #[] #[.pointer (some ⟨gw, 0, none⟩)]), e1, e2, e3, e4, e5, e6, ?_, hB, fun _ => rfl, c1, c2, c3, c4, c5, c6, c7, kE, kB, kM, kR⟩
    simp only [putAll, Act.put, qA, qB, qC]
    all_goals rfl
  | 1, _, hd, hk =>
    have hc0 := kE.2.1.cell 0
    apply wpOp_at
    case ho => rfl
    intro K hK
    simp only [putAll, Act.put, qA, qB, qC]
    go_simp
    refine hK _ _ ⟨e0, (.pointer (some ⟨gr, 0, none⟩)), e2, e3, e4, e5, e6, ?_, hB, c0, fun _ => rfl, c2, c3, c4, c5, c6, c7, kE, kB, kM, kR⟩
    simp only [putAll, Act.put, qA, qB, qC]
    all_goals rfl
  | 2, _, hd, hk =>
    have h1 : d 1 = true := hk 1 (by decide +kernel)
    obtain rfl := c1 h1
    have hd5 : d 5 = false := (Bool.eq_false_or_eq_true (d 5)).elim (fun h => absurd ((c5 h).2.2.1.symm.trans hd) (by decide)) id
    apply wpOp_at
    case ho => rfl
    intro K hK
    simp only [putAll, Act.put, qA, qB, qC]
    go_simp
    have hlk := knum_at w0 gr (z, false) 0 _ rfl (kR hd) hB
    rw [Hx0.out] at hlk
    refine hlk.mono ?_
    clear hlk
    rintro e w'' ⟨hG, ⟨hs, rfl, hR⟩ | ⟨hs, rfl⟩⟩
    rotate_left 1
    · have hf : F.2 = true := by rw [HF.out]; exact rdS_flag_le hs (by decide)
      exact ⟨rfl, kB.trans hG, Or.inr ⟨hf, rfl⟩⟩
    have hBb := hG.from hB hg
    refine hK _ _ ⟨e0, (.pointer (some ⟨gr, 0, none⟩)), .int .i64 x0, e3, e4, e5, e6, ?_, hBb, c0, c1, fun _ => ⟨hs, rfl, fun _ => hR⟩, fun h => absurd ((c3 h).1.symm.trans hd) (by decide), c4, fun h => absurd (hd5.symm.trans h) (by decide), c6, fun h => absurd ((c7 h).1.symm.trans hd) (by decide), kE.butG hG, kB.trans hG, fun h => (kM h).butG hG (by omega), fun h => Bool.noConfusion (show true = false from h)⟩
    simp only [putAll, Act.put, qA, qB, qC]
    all_goals rfl
  | 3, _, hd, hk =>
    have h0 : d 0 = true := hk 0 (by decide +kernel)
    have h2 : d 2 = true := hk 2 (by decide +kernel)
    obtain rfl := c0 h0
    obtain ⟨hs1, rfl, hR1⟩ := c2 h2
    apply wpOp_at
    case ho => rfl
    intro K hK
    simp only [putAll, Act.put, qA, qB, qC]
    go_simp
    refine (kown_calls gw who x0 _ kE.2.2.1).mono ?_
    rintro e w'' ⟨rfl, hb⟩
    refine hK _ _ ⟨(.func (.func 57) #[] #[.pointer (some ⟨gw, 0, none⟩)]), e1, .int .i64 x0, .agg #[.int .i64 x0, .int .i64 who], e4, e5, e6, ?_, hB.trans (hb.mono hB.size), c0, c1, fun _ => ⟨hs1, rfl, fun h => (hR1 h).later hb⟩, fun _ => ⟨h2, rfl⟩, c4, fun h => ⟨(c5 h).1, (c5 h).2.1, (c5 h).2.2.1, (c5 h).2.2.2.later hb⟩, c6, fun h => absurd ((c7 h).2.1.symm.trans hd) (by decide), kE.later hb, kB.next hb, fun h => (kM h).later hb (kM h).lt, fun h => absurd (h2.symm.trans h) (by decide)⟩
    simp only [putAll, Act.put, qA, qB, qC]
    all_goals rfl
  | 4, _, hd, hk =>
    have hc0 := kE.2.1.cell 0
    apply wpOp_at
    case ho => rfl
    intro K hK
    simp only [putAll, Act.put, qA, qB, qC]
    go_simp
    refine hK _ _ ⟨e0, e1, e2, e3, (.pointer (some ⟨gr, 0, none⟩)), e5, e6, ?_, hB, c0, c1, c2, c3, fun _ => rfl, c5, c6, c7, kE, kB, kM, kR⟩
    simp only [putAll, Act.put, qA, qB, qC]
    all_goals rfl
  | 5, _, hd, hk =>
    have h3 : d 3 = true := hk 3 (by decide +kernel)
    have h4 : d 4 = true := hk 4 (by decide +kernel)
    obtain rfl := c4 h4
    obtain ⟨h2, rfl⟩ := c3 h3
    obtain ⟨hs1, rfl, hR1⟩ := c2 h2
    apply wpOp_at
    case ho => rfl
    intro K hK
    simp only [putAll, Act.put, qA, qB, qC]
    go_simp
    have hlk := knum_at w0 gr (z, false) 1 _ hs1 (hR1 hd) hB
    rw [Hx1.out] at hlk
    refine hlk.mono ?_
    clear hlk
    rintro e w'' ⟨hG, ⟨hs, rfl, hR⟩ | ⟨hs, rfl⟩⟩
    rotate_left 1
    · have hf : F.2 = true := by rw [HF.out]; exact rdS_flag_le hs (by decide)
      exact ⟨rfl, kB.trans hG, Or.inr ⟨hf, rfl⟩⟩
    have hBb := hG.from hB hg
    refine hK _ _ ⟨e0, e1, .int .i64 x0, .agg #[.int .i64 x0, .int .i64 who], (.pointer (some ⟨gr, 0, none⟩)), .int .i64 x1, e6, ?_, hBb, c0, c1, fun _ => ⟨hs1, rfl, fun h => Bool.noConfusion (show true = false from h)⟩, fun _ => ⟨h2, rfl⟩, c4, fun _ => ⟨hs, rfl, h2, hR⟩, c6, fun h => absurd ((c7 h).2.2.1.symm.trans hd) (by decide), kE.butG hG, kB.trans hG, fun h => (kM h).butG hG (by omega), fun h => absurd (h2.symm.trans h) (by decide)⟩
    simp only [putAll, Act.put, qA, qB, qC]
    all_goals rfl
  | 6, _, hd, hk =>
    have h3 : d 3 = true := hk 3 (by decide +kernel)
    have h5 : d 5 = true := hk 5 (by decide +kernel)
    obtain ⟨h2, rfl⟩ := c3 h3
    obtain ⟨hs1, rfl, hR1⟩ := c2 h2
    obtain ⟨hs2, rfl, -, hR2⟩ := c5 h5
    apply wpOp_at
    case ho => rfl
    intro K hK
    simp only [putAll, Act.put, qA, qB, qC]
    go_simp
    refine hK _ _ ⟨e0, e1, .int .i64 x0, .agg #[.int .i64 x0, .int .i64 who], e4, .int .i64 x1, .agg #[.int .i64 x0, .int .i64 who, .int .i64 x1], ?_, hB, c0, c1, fun _ => ⟨hs1, rfl, hR1⟩, fun _ => ⟨h2, rfl⟩, c4, fun _ => ⟨hs2, rfl, h2, hR2⟩, fun _ => rfl, c7, kE, kB, kM, kR⟩
    simp only [putAll, Act.put, qA, qB, qC]
    all_goals rfl
  | 7, _, hd, hk =>
    have h0 : d 0 = true := hk 0 (by decide +kernel)
    have h1 : d 1 = true := hk 1 (by decide +kernel)
    have h2 : d 2 = true := hk 2 (by decide +kernel)
    have h3 : d 3 = true := hk 3 (by decide +kernel)
    have h4 : d 4 = true := hk 4 (by decide +kernel)
    have h5 : d 5 = true := hk 5 (by decide +kernel)
    have h6 : d 6 = true := hk 6 (by decide +kernel)
    obtain rfl := c0 h0
    obtain rfl := c1 h1
    obtain rfl := c4 h4
    obtain rfl := c6 h6
    obtain ⟨hs1, rfl, hR1⟩ := c2 h2
    obtain ⟨-, rfl⟩ := c3 h3
    obtain ⟨hs2, rfl, -, hR2⟩ := c5 h5
    have kM := kM hd
    have m0 := kM.cell 0
    have m1 := kM.cell 1
    have m2 := kM.cell 2
    have n0 := kM.free 0
    have n1 := kM.free 1
    have n2 := kM.free 2
    apply wpOp_at
    case ho => rfl
    intro K hK
    simp only [putAll, Act.put, qA, qB, qC]
    go_simp
    have hW3 : Whole (((w'.setCell ⟨W.heap.size, 0, none⟩ (.int .i64 x0)).setCell ⟨W.heap.size, 1, none⟩ (.int .i64 who)).setCell ⟨W.heap.size, 2, none⟩ (.int .i64 x1)) W.heap.size 67 (rqCells ⟨x0, who, x1⟩) := by have h := ((kM.set 0 (.int .i64 x0)).set 1 (.int .i64 who)).set 2 (.int .i64 x1); simpa only [List.setIfInBounds_toArray, List.set_cons_zero, List.set_cons_succ] using h
    have hE3 : ∀ (u : Value) (i : Nat) (q : World), EnvK gr gp gw go who q → EnvK gr gp gw go who (q.setCell ⟨W.heap.size, i, none⟩ u) := fun u i q h => ⟨h.1, h.2.1.other (p := ⟨W.heap.size, i, none⟩) (by show _ ≠ W.heap.size; omega) u, h.2.2.1.other (p := ⟨W.heap.size, i, none⟩) (by show _ ≠ W.heap.size; omega) u, h.2.2.2.other (p := ⟨W.heap.size, i, none⟩) (by show _ ≠ W.heap.size; omega) u⟩
    refine hK _ _ ⟨(.func (.func 57) #[] #[.pointer (some ⟨gw, 0, none⟩)]), (.pointer (some ⟨gr, 0, none⟩)), .int .i64 x0, .agg #[.int .i64 x0, .int .i64 who], (.pointer (some ⟨gr, 0, none⟩)), .int .i64 x1, .agg #[.int .i64 x0, .int .i64 who, .int .i64 x1], ?_, ((hB.setCell (p := ⟨W.heap.size, 0, none⟩) (by show _ ≤ W.heap.size; omega) _).setCell (p := ⟨W.heap.size, 1, none⟩) (by show _ ≤ W.heap.size; omega) _).setCell (p := ⟨W.heap.size, 2, none⟩) (by show _ ≤ W.heap.size; omega) _, c0, c1, fun _ => ⟨hs1, rfl, fun h => absurd (h5.symm.trans h) (by decide)⟩, fun _ => ⟨h2, rfl⟩, c4, fun _ => ⟨hs2, rfl, h2, ((hR2.set (p := ⟨W.heap.size, 0, none⟩) (by show W.heap.size ≠ gr; omega) _).set (p := ⟨W.heap.size, 1, none⟩) (by show W.heap.size ≠ gr; omega) _).set (p := ⟨W.heap.size, 2, none⟩) (by show W.heap.size ≠ gr; omega) _⟩, fun _ => rfl, fun _ => ⟨h2, h3, h5, hW3⟩, hE3 _ _ _ (hE3 _ _ _ (hE3 _ _ _ kE)), ((kB.own (p := ⟨W.heap.size, 0, none⟩) (Nat.le_refl _) _).own (p := ⟨W.heap.size, 1, none⟩) (Nat.le_refl _) _).own (p := ⟨W.heap.size, 2, none⟩) (Nat.le_refl _) _, fun h => Bool.noConfusion (show true = false from h), fun h => absurd ((hk 2 (by decide +kernel)).symm.trans h) (by decide)⟩
    simp only [putAll, Act.put, qA, qB, qC]
    all_goals rfl
  | k + 8, hi, _, _ => exact absurd hi (by simp)
 case ends =>
  intro d a' w' hJ hall
  obtain ⟨e0, e1, e2, e3, e4, e5, e6, rfl, hC⟩ := hJ
  obtain ⟨hB, hC⟩ := hC
  obtain ⟨c0, hC⟩ := hC
  obtain ⟨c1, hC⟩ := hC
  obtain ⟨c2, hC⟩ := hC
  obtain ⟨c3, hC⟩ := hC
  obtain ⟨c4, hC⟩ := hC
  obtain ⟨c5, hC⟩ := hC
  obtain ⟨c6, hC⟩ := hC
  obtain ⟨c7, hC⟩ := hC
  obtain ⟨kE, hC⟩ := hC
  obtain ⟨kB, hC⟩ := hC
  obtain ⟨kM, hC⟩ := hC
  have kR := hC
  clear hC
  obtain ⟨-, -, h5, HM⟩ := c7 (hall 7 (by decide +kernel))
  obtain ⟨hs2, -, -, hR2⟩ := c5 h5
  have q0 := HM.cell 0
  have q1 := HM.cell 1
  have q2 := HM.cell 2
  have HK : Hid (ButG gr W w' ∧ Rd w0 gr (rdS (z, false) 2).1 w') := ⟨kB, hR2⟩
  clear c0 c1 c2 c3 c4 c5 c6 c7 kE kB kM kR hall hB hR2
  simp only [putAll, Act.put, qA, qB, qC]
  go_wp2_with fail
  refine bodyPost_ret (v := .agg #[.int .i64 x0, .int .i64 who, .int .i64 x1]) (by simp [results, Tryz.results58, go_sem, q0, q1, q2]) rfl ⟨HK.out.1, Or.inl ⟨by rw [HF.out]; exact hs2, rfl, by rw [HF.out]; exact HK.out.2⟩⟩
set_option maxRecDepth 100000 in
set_option maxHeartbeats 8000000 in
theorem kout_calls (w0 : World) (gr gp gw go : Nat) (who : Int) (z : List Int) (W : World) (hR : Rd w0 gr z W) (hb : Below w0.heap.size w0 W) (hg : w0.heap.size ≤ gr) (hE : EnvK gr gp gw go who W) :
 Calls Tryz.prog 60 #[.pointer (some ⟨go, 0, none⟩), .pointer (some ⟨gp, 0, none⟩)] W (Reads w0 gr W (rdS (z, false) 2) (.agg (rqCells ⟨rdX (z, false) 0, who, rdX (z, false) 1⟩))) := by
 have HB1 : Hid (ButG gr W (W.alloc (.cells #[.int .i64 0, .int .i64 0, .int .i64 0] 69))) := ButG.of (below_box _ _)
 have HR1 : Hid (Rd w0 gr z (W.alloc (.cells #[.int .i64 0, .int .i64 0, .int .i64 0] 69))) := hR.later (below_box _ _)
 have Hb1 : Hid (Below w0.heap.size w0 (W.alloc (.cells #[.int .i64 0, .int .i64 0, .int .i64 0] 69))) := held_next hb (below_box _ _)
 have HE1 : Hid (EnvK gr gp gw go who (W.alloc (.cells #[.int .i64 0, .int .i64 0, .int .i64 0] 69))) := hE.later (below_box _ _)
 have HM1 := Lib.hid (Whole.made W 69 #[.int .i64 0, .int .i64 0, .int .i64 0])
 have hgr : gr < W.heap.size := hR.lt
 have hgp : gp < W.heap.size := hE.2.1.lt
 have hgw : gw < W.heap.size := hE.2.2.1.lt
 have hgo : go < W.heap.size := hE.2.2.2.lt
 have h0W : w0.heap.size ≤ W.heap.size := hb.size
 obtain ⟨x0, Hx0⟩ : ∃ q, Hid (rdX (z, false) 0 = q) := ⟨_, rfl⟩
 obtain ⟨x1, Hx1⟩ : ∃ q, Hid (rdX (z, false) 1 = q) := ⟨_, rfl⟩
 rw [Hx0.out, Hx1.out]
 obtain ⟨F, HF⟩ : ∃ q, Hid (q = rdS (z, false) 2) := ⟨_, rfl⟩
 rw [← HF.out]
 clear hb hR hE
 go_enter Tryz.func60, Tryz.ntmps60
 go_wp2_with fail
 refine wp_region_each_at ?hm ?hb (fun a0 d a' w' => ∃ (e0 e1 e2 e3 e4 e5 e6 : Value), a' = putAll a0 [(3, e0), (4, e1), (5, e2), (6, e3), (7, e4), (8, e5), (9, e6)] ∧ Below w0.heap.size w0 w' ∧ (d 0 = true → e0 = (.func (.func 57) #[] #[.pointer (some ⟨gw, 0, none⟩)])) ∧ (d 1 = true → e1 = (.pointer (some ⟨gr, 0, none⟩))) ∧ (d 2 = true → ((rdS (z, false) 1).2 = false ∧ e2 = .int .i64 x0 ∧ (d 5 = false → Rd w0 gr (rdS (z, false) 1).1 w'))) ∧ (d 3 = true → (d 2 = true ∧ e3 = .agg #[.int .i64 x0, .int .i64 who])) ∧ (d 4 = true → e4 = (.pointer (some ⟨gr, 0, none⟩))) ∧ (d 5 = true → ((rdS (z, false) 2).2 = false ∧ e5 = .int .i64 x1 ∧ d 2 = true ∧ Rd w0 gr (rdS (z, false) 2).1 w')) ∧ (d 6 = true → (e6 = .agg #[.int .i64 x0, .int .i64 who, .int .i64 x1])) ∧ (d 7 = true → (d 2 = true ∧ d 3 = true ∧ d 5 = true ∧ Whole w' W.heap.size 69 (rqCells ⟨x0, who, x1⟩))) ∧ EnvK gr gp gw go who w' ∧ ButG gr W w' ∧ (d 7 = false → Whole w' W.heap.size 69 #[.int .i64 0, .int .i64 0, .int .i64 0]) ∧ (d 2 = false → Rd w0 gr z w')) ?h0 ?step ?ends
 case hm => kernel_rfl
 case hb => kernel_rfl
 case h0 =>
  refine ⟨undef, undef, undef, undef, undef, undef, undef, ?_, Hb1.out.drew, fun h => absurd h (by decide), fun h => absurd h (by decide), fun h => absurd h (by decide), fun h => absurd h (by decide), fun h => absurd h (by decide), fun h => absurd h (by decide), fun h => absurd h (by decide), fun h => absurd h (by decide), HE1.out.later (Below.refl _ _).drew, HB1.out.next (Below.refl _ _).drew, fun _ => HM1.out.drew, fun _ => HR1.out.later (Below.refl _ _).drew⟩
  simp only [putAll, Act.put, qA, qB, qC]
 case step =>
  intro i d a' w' hi hJ hd hk
  obtain ⟨e0, e1, e2, e3, e4, e5, e6, rfl, hC⟩ := hJ
  obtain ⟨hB, hC⟩ := hC
  obtain ⟨c0, hC⟩ := hC
  obtain ⟨c1, hC⟩ := hC
  obtain ⟨c2, hC⟩ := hC
  obtain ⟨c3, hC⟩ := hC
  obtain ⟨c4, hC⟩ := hC
  obtain ⟨c5, hC⟩ := hC
  obtain ⟨c6, hC⟩ := hC
  obtain ⟨c7, hC⟩ := hC
  obtain ⟨kE, hC⟩ := hC
  obtain ⟨kB, hC⟩ := hC
  obtain ⟨kM, hC⟩ := hC
  have kR := hC
  clear hC
  match i, hi, hd, hk with
  | 0, _, hd, hk =>
    have hc0 := kE.2.2.2.cell 0
    apply wpOp_at
    case ho => rfl
    intro K hK
    simp only [putAll, Act.put, qA, qB, qC]
    go_simp
    refine hK _ _ ⟨(.func (.func 57) #[] #[.pointer (some ⟨gw, 0, none⟩)]), e1, e2, e3, e4, e5, e6, ?_, hB, fun _ => rfl, c1, c2, c3, c4, c5, c6, c7, kE, kB, kM, kR⟩
    simp only [putAll, Act.put, qA, qB, qC]
    all_goals rfl
  | 1, _, hd, hk =>
    have hc0 := kE.2.1.cell 0
    apply wpOp_at
    case ho => rfl
    intro K hK
    simp only [putAll, Act.put, qA, qB, qC]
    go_simp
    refine hK _ _ ⟨e0, (.pointer (some ⟨gr, 0, none⟩)), e2, e3, e4, e5, e6, ?_, hB, c0, fun _ => rfl, c2, c3, c4, c5, c6, c7, kE, kB, kM, kR⟩
    simp only [putAll, Act.put, qA, qB, qC]
    all_goals rfl
  | 2, _, hd, hk =>
    have h1 : d 1 = true := hk 1 (by decide +kernel)
    obtain rfl := c1 h1
    have hd5 : d 5 = false := (Bool.eq_false_or_eq_true (d 5)).elim (fun h => absurd ((c5 h).2.2.1.symm.trans hd) (by decide)) id
    apply wpOp_at
    case ho => rfl
    intro K hK
    simp only [putAll, Act.put, qA, qB, qC]
    go_simp
    have hlk := knum_at w0 gr (z, false) 0 _ rfl (kR hd) hB
    rw [Hx0.out] at hlk
    refine hlk.mono ?_
    clear hlk
    rintro e w'' ⟨hG, ⟨hs, rfl, hR⟩ | ⟨hs, rfl⟩⟩
    rotate_left 1
    · have hf : F.2 = true := by rw [HF.out]; exact rdS_flag_le hs (by decide)
      exact ⟨rfl, kB.trans hG, Or.inr ⟨hf, rfl⟩⟩
    have hBb := hG.from hB hg
    refine hK _ _ ⟨e0, (.pointer (some ⟨gr, 0, none⟩)), .int .i64 x0, e3, e4, e5, e6, ?_, hBb, c0, c1, fun _ => ⟨hs, rfl, fun _ => hR⟩, fun h => absurd ((c3 h).1.symm.trans hd) (by decide), c4, fun h => absurd (hd5.symm.trans h) (by decide), c6, fun h => absurd ((c7 h).1.symm.trans hd) (by decide), kE.butG hG, kB.trans hG, fun h => (kM h).butG hG (by omega), fun h => Bool.noConfusion (show true = false from h)⟩
    simp only [putAll, Act.put, qA, qB, qC]
    all_goals rfl
  | 3, _, hd, hk =>
    have h0 : d 0 = true := hk 0 (by decide +kernel)
    have h2 : d 2 = true := hk 2 (by decide +kernel)
    obtain rfl := c0 h0
    obtain ⟨hs1, rfl, hR1⟩ := c2 h2
    apply wpOp_at
    case ho => rfl
    intro K hK
    simp only [putAll, Act.put, qA, qB, qC]
    go_simp
    refine (kown_calls gw who x0 _ kE.2.2.1).mono ?_
    rintro e w'' ⟨rfl, hb⟩
    refine hK _ _ ⟨(.func (.func 57) #[] #[.pointer (some ⟨gw, 0, none⟩)]), e1, .int .i64 x0, .agg #[.int .i64 x0, .int .i64 who], e4, e5, e6, ?_, hB.trans (hb.mono hB.size), c0, c1, fun _ => ⟨hs1, rfl, fun h => (hR1 h).later hb⟩, fun _ => ⟨h2, rfl⟩, c4, fun h => ⟨(c5 h).1, (c5 h).2.1, (c5 h).2.2.1, (c5 h).2.2.2.later hb⟩, c6, fun h => absurd ((c7 h).2.1.symm.trans hd) (by decide), kE.later hb, kB.next hb, fun h => (kM h).later hb (kM h).lt, fun h => absurd (h2.symm.trans h) (by decide)⟩
    simp only [putAll, Act.put, qA, qB, qC]
    all_goals rfl
  | 4, _, hd, hk =>
    have hc0 := kE.2.1.cell 0
    apply wpOp_at
    case ho => rfl
    intro K hK
    simp only [putAll, Act.put, qA, qB, qC]
    go_simp
    refine hK _ _ ⟨e0, e1, e2, e3, (.pointer (some ⟨gr, 0, none⟩)), e5, e6, ?_, hB, c0, c1, c2, c3, fun _ => rfl, c5, c6, c7, kE, kB, kM, kR⟩
    simp only [putAll, Act.put, qA, qB, qC]
    all_goals rfl
  | 5, _, hd, hk =>
    have h3 : d 3 = true := hk 3 (by decide +kernel)
    have h4 : d 4 = true := hk 4 (by decide +kernel)
    obtain rfl := c4 h4
    obtain ⟨h2, rfl⟩ := c3 h3
    obtain ⟨hs1, rfl, hR1⟩ := c2 h2
    apply wpOp_at
    case ho => rfl
    intro K hK
    simp only [putAll, Act.put, qA, qB, qC]
    go_simp
    have hlk := knum_at w0 gr (z, false) 1 _ hs1 (hR1 hd) hB
    rw [Hx1.out] at hlk
    refine hlk.mono ?_
    clear hlk
    rintro e w'' ⟨hG, ⟨hs, rfl, hR⟩ | ⟨hs, rfl⟩⟩
    rotate_left 1
    · have hf : F.2 = true := by rw [HF.out]; exact rdS_flag_le hs (by decide)
      exact ⟨rfl, kB.trans hG, Or.inr ⟨hf, rfl⟩⟩
    have hBb := hG.from hB hg
    refine hK _ _ ⟨e0, e1, .int .i64 x0, .agg #[.int .i64 x0, .int .i64 who], (.pointer (some ⟨gr, 0, none⟩)), .int .i64 x1, e6, ?_, hBb, c0, c1, fun _ => ⟨hs1, rfl, fun h => Bool.noConfusion (show true = false from h)⟩, fun _ => ⟨h2, rfl⟩, c4, fun _ => ⟨hs, rfl, h2, hR⟩, c6, fun h => absurd ((c7 h).2.2.1.symm.trans hd) (by decide), kE.butG hG, kB.trans hG, fun h => (kM h).butG hG (by omega), fun h => absurd (h2.symm.trans h) (by decide)⟩
    simp only [putAll, Act.put, qA, qB, qC]
    all_goals rfl
  | 6, _, hd, hk =>
    have h3 : d 3 = true := hk 3 (by decide +kernel)
    have h5 : d 5 = true := hk 5 (by decide +kernel)
    obtain ⟨h2, rfl⟩ := c3 h3
    obtain ⟨hs1, rfl, hR1⟩ := c2 h2
    obtain ⟨hs2, rfl, -, hR2⟩ := c5 h5
    apply wpOp_at
    case ho => rfl
    intro K hK
    simp only [putAll, Act.put, qA, qB, qC]
    go_simp
    refine hK _ _ ⟨e0, e1, .int .i64 x0, .agg #[.int .i64 x0, .int .i64 who], e4, .int .i64 x1, .agg #[.int .i64 x0, .int .i64 who, .int .i64 x1], ?_, hB, c0, c1, fun _ => ⟨hs1, rfl, hR1⟩, fun _ => ⟨h2, rfl⟩, c4, fun _ => ⟨hs2, rfl, h2, hR2⟩, fun _ => rfl, c7, kE, kB, kM, kR⟩
    simp only [putAll, Act.put, qA, qB, qC]
    all_goals rfl
  | 7, _, hd, hk =>
    have h0 : d 0 = true := hk 0 (by decide +kernel)
    have h1 : d 1 = true := hk 1 (by decide +kernel)
    have h2 : d 2 = true := hk 2 (by decide +kernel)
    have h3 : d 3 = true := hk 3 (by decide +kernel)
    have h4 : d 4 = true := hk 4 (by decide +kernel)
    have h5 : d 5 = true := hk 5 (by decide +kernel)
    have h6 : d 6 = true := hk 6 (by decide +kernel)
    obtain rfl := c0 h0
    obtain rfl := c1 h1
    obtain rfl := c4 h4
    obtain rfl := c6 h6
    obtain ⟨hs1, rfl, hR1⟩ := c2 h2
    obtain ⟨-, rfl⟩ := c3 h3
    obtain ⟨hs2, rfl, -, hR2⟩ := c5 h5
    have kM := kM hd
    have m0 := kM.cell 0
    have m1 := kM.cell 1
    have m2 := kM.cell 2
    have n0 := kM.free 0
    have n1 := kM.free 1
    have n2 := kM.free 2
    apply wpOp_at
    case ho => rfl
    intro K hK
    simp only [putAll, Act.put, qA, qB, qC]
    go_simp
    have hW3 : Whole (((w'.setCell ⟨W.heap.size, 0, none⟩ (.int .i64 x0)).setCell ⟨W.heap.size, 1, none⟩ (.int .i64 who)).setCell ⟨W.heap.size, 2, none⟩ (.int .i64 x1)) W.heap.size 69 (rqCells ⟨x0, who, x1⟩) := by have h := ((kM.set 0 (.int .i64 x0)).set 1 (.int .i64 who)).set 2 (.int .i64 x1); simpa only [List.setIfInBounds_toArray, List.set_cons_zero, List.set_cons_succ] using h
    have hE3 : ∀ (u : Value) (i : Nat) (q : World), EnvK gr gp gw go who q → EnvK gr gp gw go who (q.setCell ⟨W.heap.size, i, none⟩ u) := fun u i q h => ⟨h.1, h.2.1.other (p := ⟨W.heap.size, i, none⟩) (by show _ ≠ W.heap.size; omega) u, h.2.2.1.other (p := ⟨W.heap.size, i, none⟩) (by show _ ≠ W.heap.size; omega) u, h.2.2.2.other (p := ⟨W.heap.size, i, none⟩) (by show _ ≠ W.heap.size; omega) u⟩
    refine hK _ _ ⟨(.func (.func 57) #[] #[.pointer (some ⟨gw, 0, none⟩)]), (.pointer (some ⟨gr, 0, none⟩)), .int .i64 x0, .agg #[.int .i64 x0, .int .i64 who], (.pointer (some ⟨gr, 0, none⟩)), .int .i64 x1, .agg #[.int .i64 x0, .int .i64 who, .int .i64 x1], ?_, ((hB.setCell (p := ⟨W.heap.size, 0, none⟩) (by show _ ≤ W.heap.size; omega) _).setCell (p := ⟨W.heap.size, 1, none⟩) (by show _ ≤ W.heap.size; omega) _).setCell (p := ⟨W.heap.size, 2, none⟩) (by show _ ≤ W.heap.size; omega) _, c0, c1, fun _ => ⟨hs1, rfl, fun h => absurd (h5.symm.trans h) (by decide)⟩, fun _ => ⟨h2, rfl⟩, c4, fun _ => ⟨hs2, rfl, h2, ((hR2.set (p := ⟨W.heap.size, 0, none⟩) (by show W.heap.size ≠ gr; omega) _).set (p := ⟨W.heap.size, 1, none⟩) (by show W.heap.size ≠ gr; omega) _).set (p := ⟨W.heap.size, 2, none⟩) (by show W.heap.size ≠ gr; omega) _⟩, fun _ => rfl, fun _ => ⟨h2, h3, h5, hW3⟩, hE3 _ _ _ (hE3 _ _ _ (hE3 _ _ _ kE)), ((kB.own (p := ⟨W.heap.size, 0, none⟩) (Nat.le_refl _) _).own (p := ⟨W.heap.size, 1, none⟩) (Nat.le_refl _) _).own (p := ⟨W.heap.size, 2, none⟩) (Nat.le_refl _) _, fun h => Bool.noConfusion (show true = false from h), fun h => absurd ((hk 2 (by decide +kernel)).symm.trans h) (by decide)⟩
    simp only [putAll, Act.put, qA, qB, qC]
    all_goals rfl
  | k + 8, hi, _, _ => exact absurd hi (by simp)
 case ends =>
  intro d a' w' hJ hall
  obtain ⟨e0, e1, e2, e3, e4, e5, e6, rfl, hC⟩ := hJ
  obtain ⟨hB, hC⟩ := hC
  obtain ⟨c0, hC⟩ := hC
  obtain ⟨c1, hC⟩ := hC
  obtain ⟨c2, hC⟩ := hC
  obtain ⟨c3, hC⟩ := hC
  obtain ⟨c4, hC⟩ := hC
  obtain ⟨c5, hC⟩ := hC
  obtain ⟨c6, hC⟩ := hC
  obtain ⟨c7, hC⟩ := hC
  obtain ⟨kE, hC⟩ := hC
  obtain ⟨kB, hC⟩ := hC
  obtain ⟨kM, hC⟩ := hC
  have kR := hC
  clear hC
  obtain ⟨-, -, h5, HM⟩ := c7 (hall 7 (by decide +kernel))
  obtain ⟨hs2, -, -, hR2⟩ := c5 h5
  have q0 := HM.cell 0
  have q1 := HM.cell 1
  have q2 := HM.cell 2
  have HK : Hid (ButG gr W w' ∧ Rd w0 gr (rdS (z, false) 2).1 w') := ⟨kB, hR2⟩
  clear c0 c1 c2 c3 c4 c5 c6 c7 kE kB kM kR hall hB hR2
  simp only [putAll, Act.put, qA, qB, qC]
  go_wp2_with fail
  refine bodyPost_ret (v := .agg #[.int .i64 x0, .int .i64 who, .int .i64 x1]) (by simp [results, Tryz.results60, go_sem, q0, q1, q2]) rfl ⟨HK.out.1, Or.inl ⟨by rw [HF.out]; exact hs2, rfl, by rw [HF.out]; exact HK.out.2⟩⟩
end Go.Proofs.YtnkgakhnlbifdaaGreat
