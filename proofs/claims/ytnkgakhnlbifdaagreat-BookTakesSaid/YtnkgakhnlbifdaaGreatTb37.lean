/- Parts, as far as BookTakesCards reaches them, of: BookAwake, BookTakes. No law is proved here. -/
import Derived.Test.YtnkgakhnlbifdaaGreatTb36
import Derived.Test.YtnkgakhnlbifdaaGreatTb4
import Derived.Test.YtnkgakhnlbifdaaGreatTb6
import Derived.Test.YtnkgakhnlbifdaaGreatTb0
import Derived.BigRegion
import Derived.Test.YtnkgakhnlbifdaaGreatTbQ
import Derived.Test.YtnkgakhnlbifdaaGreatTb19
namespace Go.Proofs.YtnkgakhnlbifdaaGreat
open Go.RowKit
abbrev wakeC17 : Cf := ⟨1, 1, 0, 1, 0, 0⟩
abbrev wakeK17 : Bk := ⟨0, [⟨0, 0, [0]⟩], [], [], 0, [nt0], au0⟩
theorem wake_new17 : newK wakeC17 0 = (wakeK17, 0) := by rfl
theorem wake_bytes17 : bookBytes wakeK17 = [0, 0, 0, 0, 0, 0, 0, 0, 0, 0, 0, 0, 0, 0, 0, 0] := by simp [bookBytes, allK, restN, pairN, notesN, flatR, rowN, bytesN, u64n, PackMath.num_lt, noteN, auN]
theorem wake_may17 : bookOk wakeC17 0 wakeK17 := of_decide_eq_true (show decide (bookOk wakeC17 0 wakeK17) = true by decide +kernel)
theorem wake_take17 : takeK wakeC17 0 [0, 0, 0, 0, 0, 0, 0, 0, 0, 0, 0, 0, 0, 0, 0, 0] = some wakeK17 := takeK_yes ⟨wake_may17, wake_bytes17.symm⟩
theorem wake_none17 : takeK wakeC17 0 ([0, 0, 0, 0, 0, 0, 0, 0, 0, 0, 0, 0, 0, 0, 0, 0] ++ [0]) = none := by
 rw [← wake_bytes17]
 exact takeK_behind wake_may17 (by decide)
attribute [local go_sem ↓] run_fine
set_option maxRecDepth 100000 in
set_option maxHeartbeats 16000000 in
theorem awake17 (w : World) : Calls Tryz.prog 6 #[] w (Says w true) := by
 have HW0 := Lib.hid (Whole.made w 23 (cfCells wakeC17))
 have Hb00 := Lib.hid (below_box w (.cells (cfCells wakeC17) 23))
 go_enter Tryz.func6, Tryz.ntmps6
 go_wp2_with fail
 refine (kNew_calls wakeC17 0 _).mono ?_
 rw [wake_new17]
 rintro e w1 ⟨p1, rfl, hM, hb⟩
 simp only at hM
 have hb1 := below_box w1 (.cells (bkAtC wakeK17 p1) 37)
 have hX := Whole.made w1 37 (bkAtC wakeK17 p1)
 obtain ⟨w2, hw2⟩ : ∃ z, z = w1.alloc (.cells (bkAtC wakeK17 p1) 37) := ⟨_, rfl⟩
 have hM2 := hM.later hb1
 have hW2 := (HW0.out.later hb HW0.out.lt).later hb1 (HW0.out.later hb HW0.out.lt).lt
 have hb2 := held_next (held_next Hb00.out hb) hb1
 rw [← hw2] at hX hM2 hW2 hb2
 have HX2 := Lib.hid hX; have HM2 := Lib.hid hM2; have HW2 := Lib.hid hW2; have Hb2 := Lib.hid hb2
 have Hp : Hid (p1.m2 ≤ 40 ∧ p1.m3 ≤ 40 ∧ p1.m4 ≤ 40 ∧ p1.al.m1 ≤ 40 ∧ p1.al.m2 ≤ 40 ∧ p1.al.m3 ≤ 40) := by
  obtain ⟨_, ⟨h2, _⟩, ⟨h3, _⟩, ⟨h4, _⟩, ⟨h5, _⟩, ⟨h6, _⟩, h7, _⟩ := HM2.out
  refine ⟨?_, ?_, ?_, ?_, ?_, ?_⟩
  · rw [h2]; decide
  · rw [h3]; decide
  · rw [h4]; decide
  · rw [h5]; decide
  · rw [h6]; decide
  · rw [h7]; decide
 clear hX hM hM2 hW2 hb2 hb hb1 HW0 Hb00
 obtain ⟨⟨z0, z1, z2, z3⟩, ⟨z4, z5, z6, z7⟩, z8, z9, z10, z11⟩ := bk_cells HX2.out
 go_wp2_with fail
 rw [← hw2]
 clear hw2
 refine (kPut_calls wakeK17 p1 _ HM2.out Hp.out (by decide)).mono ?_
 rw [wake_bytes17]
 rintro e w3 ⟨v, rfl, hb, hF⟩
 have hby := hF.bytes
 obtain ⟨g8, C8, hv8, h8B, h8l, h8C, _⟩ := hF.form
 subst hv8
 have HF3 := Lib.hid hF
 have HBy3 := Lib.hid hby
 have Hb3 := Lib.hid (held_next Hb2.out hb)
 have Hb23 := Lib.hid hb
 have HW3 := Lib.hid (HW2.out.later hb HW2.out.lt)
 clear hb hF hby z0 z1 z2 z3 z4 z5 z6 z7 z8 z9 z10 z11 Hp
 obtain ⟨d0, d1, d2, d3, d4, d5⟩ := config_cells HW3.out
 simp only at d0 d1 d2 d3 d4 d5
 have H8 : Hid (([0, 0, 0, 0, 0, 0, 0, 0, 0, 0, 0, 0, 0, 0, 0, 0] : List Int).length = 16) := rfl
 rw [H8.out] at HF3 HBy3 h8C ⊢
 go_wp2_with fail
 refine (kTake_calls wakeC17 0 (some ⟨g8, 0, none⟩) 16 C8 [0, 0, 0, 0, 0, 0, 0, 0, 0, 0, 0, 0, 0, 0, 0, 0] _ HBy3.out rfl h8C (by decide)).mono ?_
 rw [wake_take17]
 rintro e w4 ⟨p4, he, hK4, hb⟩
 obtain rfl : e = .returned (.tuple #[bkAt wakeK17 p4, .bool true]) := he
 have HK4 : Hid (BkHeld w3.heap.size w4 p4 wakeK17) := hK4
 clear d0 d1 d2 d3 d4 d5 hK4
 go_wp2_with fail
 have hb4 := below_box w4 (.cells (bkAtC wakeK17 p4) 37)
 have hK := Whole.made w4 37 (bkAtC wakeK17 p4)
 obtain ⟨g4, hg4⟩ : ∃ z, w4.heap.size = z := ⟨_, rfl⟩
 have hb45 := hb.trans (hb4.mono hb.size)
 obtain ⟨w5, hw5⟩ : ∃ z, w4.alloc (.cells (bkAtC wakeK17 p4) 37) = z := ⟨_, rfl⟩
 have h45 := hb4
 rw [hw5] at hK hb45 h45
 have hgl : w4.heap.size < w5.heap.size := hK.lt
 rw [hg4] at hK hgl
 have HK := Lib.hid hK
 have H35 := Lib.hid hb45
 have H45 := Lib.hid h45
 have HF5 := Lib.hid (HF3.out.later hb45)
 have HBy5 := Lib.hid (HBy3.out.later hb45)
 have h8g : g8 ≠ g4 := by have := hb.size; omega
 have h8W : g8 < w3.heap.size := h8l
 have h5s : w4.heap.size ≤ w5.heap.size := Nat.le_of_lt (by rw [hg4]; exact hgl)
 have Hb25 := Lib.hid (Hb23.out.trans (hb45.mono Hb23.out.size))
 have Hsz := Lib.hid (show w3.heap.size ≤ w5.heap.size from hb45.size)
 clear hb hb4 hK hb45 h45
 show Code.wp _ _ _ _ (w4.alloc (.cells (bkAtC wakeK17 p4) 37))
 rw [hw5, hg4]
 clear hw5
 refine wp_region_each_at ?hm ?hb (fun a0 d a' w' => ∃ (e0 e1 e2 e3 e4 e5 e6 e7 e8 e10 : Value) (P : Bl) (gb : Nat), a' = putAll a0 [(24, e0), (25, e1), (26, e2), (27, e3), (28, e4), (23, e5), (29, e6), (30, e7), (7, e8), (8, e10)] ∧ Below w2.heap.size w2 w' ∧ (d 0 = true → e0 = (cfV wakeC17)) ∧ (d 1 = true → e1 = (.slice (some ⟨g8, 0, none⟩) 16 C8)) ∧ (d 2 = true → (d 3 = false → ∃ h0, e2 = .slice (some ⟨h0, 0, none⟩) 1 1 ∧ Whole w' h0 5 #[.int .u8 0])) ∧ (d 3 = true → (d 2 = true ∧ (d 4 = false → ∃ A C, e3 = .slice A 17 C ∧ Bytes w' (.slice A 17 C) ([0, 0, 0, 0, 0, 0, 0, 0, 0, 0, 0, 0, 0, 0, 0, 0] ++ [0]) ∧ 17 ≤ C))) ∧ (d 4 = true → (d 3 = true ∧ e4 = .tuple #[bkAt bk0 P, .bool false])) ∧ (d 5 = true → (d 4 = true ∧ e5 = .tuple #[bkAt bk0 P, .bool false])) ∧ (d 6 = true → (d 4 = true ∧ e6 = bkAt bk0 P)) ∧ (d 7 = true → (e7 = .bool false)) ∧ (d 8 = true → (e8 = .pointer (some ⟨gb, 0, none⟩) ∧ w5.heap.size ≤ gb ∧ gb < w'.heap.size ∧ (d 9 = false → Whole w' gb 37 (bkCells bk0 (.slice none 0 0) (.slice none 0 0) (.slice none 0 0) (.slice none 0 0) (.slice none 0 0) (.slice none 0 0) (.slice none 0 0))))) ∧ (d 9 = true → (d 3 = true ∧ d 8 = true ∧ d 4 = true)) ∧ (d 10 = true → (e10 = .bool false)) ∧ Whole w' g4 37 (bkAtC wakeK17 p4) ∧ (∀ g, w3.heap.size ≤ g → g < w4.heap.size → w'.heap[g]? = w4.heap[g]?) ∧ (d 3 = false → Fresh w2.heap.size 5 w' (.slice (some ⟨g8, 0, none⟩) 16 C8) [0, 0, 0, 0, 0, 0, 0, 0, 0, 0, 0, 0, 0, 0, 0, 0]) ∧ w5.heap.size ≤ w'.heap.size) ?h0 ?step ?ends
 case hm => kernel_rfl
 case hb => kernel_rfl
 case h0 =>
  refine ⟨undef, undef, undef, undef, undef, undef, undef, undef, undef, undef, bl00, 0, ?_, Hb25.out.drew, fun h => absurd h (by decide), fun h => absurd h (by decide), fun h => absurd h (by decide), fun h => absurd h (by decide), fun h => absurd h (by decide), fun h => absurd h (by decide), fun h => absurd h (by decide), fun h => absurd h (by decide), fun h => absurd h (by decide), fun h => absurd h (by decide), fun h => absurd h (by decide), HK.out.drew, fun g _ h2 => H45.out.block g h2, fun _ => HF5.out.later (Below.refl _ _).drew, Nat.le_refl _⟩
  simp only [putAll, Act.put, qA, qB, qC]
 case step =>
  intro i d a' w' hi hJ hd hk
  obtain ⟨e0, e1, e2, e3, e4, e5, e6, e7, e8, e10, P, gb, rfl, hC⟩ := hJ
  obtain ⟨hB, hC⟩ := hC
  obtain ⟨c0, hC⟩ := hC
  obtain ⟨c1, hC⟩ := hC
  obtain ⟨c2, hC⟩ := hC
  obtain ⟨c3, hC⟩ := hC
  obtain ⟨c4, hC⟩ := hC
  obtain ⟨c5, hC⟩ := hC
  obtain ⟨c6, hC⟩ := hC
  obtain ⟨c7, hC⟩ := hC
  obtain ⟨c8, hC⟩ := hC
  obtain ⟨c9, hC⟩ := hC
  obtain ⟨c10, hC⟩ := hC
  obtain ⟨ck, hC⟩ := hC
  obtain ⟨cx, hC⟩ := hC
  obtain ⟨co, hC⟩ := hC
  have cz := hC
  clear hC
  match i, hi, hd, hk with
  | 0, _, hd, hk =>
    obtain ⟨z0, z1, z2, z3, z4, z5⟩ := config_cells (HW2.out.later hB HW2.out.lt)
    simp only at z0 z1 z2 z3 z4 z5
    apply wpOp_at
    case ho => rfl
    intro K hK
    simp only [putAll, Act.put, qA, qB, qC]
    go_simp
    refine hK _ _ ⟨(cfV wakeC17), e1, e2, e3, e4, e5, e6, e7, e8, e10, P, gb, ?_, hB, fun _ => rfl, c1, c2, c3, c4, c5, c6, c7, c8, c9, c10, ck, cx, co, cz⟩
    simp only [putAll, Act.put, qA, qB, qC]
    all_goals rfl
  | 1, _, hd, hk =>
    apply wpOp_at
    case ho => rfl
    intro K hK
    simp only [putAll, Act.put, qA, qB, qC]
    go_simp
    refine hK _ _ ⟨e0, (.slice (some ⟨g8, 0, none⟩) 16 C8), e2, e3, e4, e5, e6, e7, e8, e10, P, gb, ?_, hB, c0, fun _ => rfl, c2, c3, c4, c5, c6, c7, c8, c9, c10, ck, cx, co, cz⟩
    simp only [putAll, Act.put, qA, qB, qC]
    all_goals rfl
  | 2, _, hd, hk =>
    have hb := below_box w' (.cells #[.int .u8 0] 5)
    apply wpOp_at
    case ho => rfl
    intro K hK
    simp only [putAll, Act.put, qA, qB, qC]
    go_simp
    refine hK _ _ ⟨e0, e1, .slice (some ⟨w'.heap.size, 0, none⟩) 1 1, e3, e4, e5, e6, e7, e8, e10, P, gb, ?_, hB.trans (hb.mono hB.size), c0, c1, fun _ => fun _ => ⟨_, rfl, Whole.made w' _ _⟩, fun h => Bool.noConfusion (hd.symm.trans (c3 h).1), c4, c5, c6, c7, fun h => ⟨(c8 h).1, (c8 h).2.1, Nat.lt_of_lt_of_le (c8 h).2.2.1 hb.size, fun h2 => ((c8 h).2.2.2 h2).later hb (c8 h).2.2.1⟩, c9, c10, ck.later hb ck.lt, fun g h1 h2 => (hb.block g (Nat.lt_of_lt_of_le h2 (Nat.le_trans h5s cz))).trans (cx g h1 h2), fun h => (co h).later hb, Nat.le_trans cz hb.size⟩
    simp only [putAll, Act.put, qA, qB, qC]
    all_goals rfl
  | 3, _, hd, hk =>
    have h1 : d 1 = true := hk 1 (by decide +kernel)
    have h2 : d 2 = true := hk 2 (by decide +kernel)
    obtain rfl := c1 h1
    obtain ⟨h0, rfl, hw⟩ := c2 h2 hd
    have hst := append_still (co hd) rfl h8C (y := 0) (by decide) hB.size (hw.cell 0) (by decide) (c := 1)
    rw [show 16 + 1 = 17 from rfl] at hst
    obtain ⟨A9, C9, w9, hrun, q1, q2, q3, q4, q5, q6⟩ := hst
    obtain ⟨hfine, happV, happW⟩ := fine_of hrun
    clear hrun
    apply wpOp_at
    case ho => rfl
    intro K hK
    simp only [putAll, Act.put, qA, qB, qC]
    go_simp
    refine hK _ _ ⟨e0, (.slice (some ⟨g8, 0, none⟩) 16 C8), .slice (some ⟨h0, 0, none⟩) 1 1, .slice A9 17 C9, e4, e5, e6, e7, e8, e10, P, gb, ?_, hB.trans q4, c0, c1, fun _ h => Bool.noConfusion (show true = false from h), fun _ => ⟨h2, fun _ => ⟨A9, C9, rfl, q1, q2⟩⟩, fun h => Bool.noConfusion (hd.symm.trans (c4 h).1), c5, c6, c7, fun h => ⟨(c8 h).1, (c8 h).2.1, Nat.lt_of_lt_of_le (c8 h).2.2.1 q6, fun h9 => (q5 gb (c8 h).2.2.1 (by have := (c8 h).2.1; have := Hsz.out; omega)).trans ((c8 h).2.2.2 h9)⟩, fun h => Bool.noConfusion (hd.symm.trans (c9 h).1), c10, (q5 g4 ck.lt h8g.symm).trans ck, fun g h1 h2 => (q5 g (Nat.lt_of_lt_of_le h2 (Nat.le_trans h5s cz)) (fun e => by omega)).trans (cx g h1 h2), fun h => Bool.noConfusion (show true = false from h), Nat.le_trans cz q6⟩
    simp only [putAll, Act.put, qA, qB, qC]
    all_goals rfl
  | 4, _, hd, hk =>
    have h0 : d 0 = true := hk 0 (by decide +kernel)
    have h3 : d 3 = true := hk 3 (by decide +kernel)
    obtain rfl := c0 h0
    obtain ⟨h2, hp3⟩ := c3 h3
    obtain ⟨A3, C3, rfl, hB3, hC3⟩ := hp3 hd
    apply wpOp_at
    case ho => rfl
    intro K hK
    simp only [putAll, Act.put, qA, qB, qC]
    go_simp
    refine (kTake_calls wakeC17 0 A3 17 C3 ([0, 0, 0, 0, 0, 0, 0, 0, 0, 0, 0, 0, 0, 0, 0, 0] ++ [0]) w' hB3 rfl hC3 (by decide)).mono ?_
    rw [wake_none17]
    rintro e w'' ⟨p', rfl, _, hb⟩
    refine hK _ _ ⟨(cfV wakeC17), e1, e2, .slice A3 17 C3, .tuple #[bkAt bk0 p', .bool false], e5, e6, e7, e8, e10, p', gb, ?_, hB.trans (hb.mono hB.size), c0, c1, fun _ h => absurd (h3.symm.trans h) (by decide), fun _ => ⟨h2, fun h => Bool.noConfusion (show true = false from h)⟩, fun _ => ⟨h3, rfl⟩, fun h => Bool.noConfusion (hd.symm.trans (c5 h).1), fun h => Bool.noConfusion (hd.symm.trans (c6 h).1), c7, fun h => ⟨(c8 h).1, (c8 h).2.1, Nat.lt_of_lt_of_le (c8 h).2.2.1 hb.size, fun h2 => ((c8 h).2.2.2 h2).later hb (c8 h).2.2.1⟩, fun h => ⟨(c9 h).1, (c9 h).2.1, rfl⟩, c10, ck.later hb ck.lt, fun g h1 h2 => (hb.block g (Nat.lt_of_lt_of_le h2 (Nat.le_trans h5s cz))).trans (cx g h1 h2), fun h => absurd (h3.symm.trans h) (by decide), Nat.le_trans cz hb.size⟩
    simp only [putAll, Act.put, qA, qB, qC]
    all_goals rfl
  | 5, _, hd, hk =>
    have h4 : d 4 = true := hk 4 (by decide +kernel)
    obtain ⟨h3, rfl⟩ := c4 h4
    apply wpOp_at
    case ho => rfl
    intro K hK
    simp only [putAll, Act.put, qA, qB, qC]
    go_simp
    refine hK _ _ ⟨e0, e1, e2, e3, .tuple #[bkAt bk0 P, .bool false], .tuple #[bkAt bk0 P, .bool false], e6, e7, e8, e10, P, gb, ?_, hB, c0, c1, c2, c3, fun _ => ⟨h3, rfl⟩, fun _ => ⟨h4, rfl⟩, c6, c7, c8, c9, c10, ck, cx, co, cz⟩
    simp only [putAll, Act.put, qA, qB, qC]
    all_goals rfl
  | 6, _, hd, hk =>
    have h5 : d 5 = true := hk 5 (by decide +kernel)
    obtain ⟨h4, rfl⟩ := c5 h5
    obtain ⟨h3, rfl⟩ := c4 h4
    apply wpOp_at
    case ho => rfl
    intro K hK
    simp only [putAll, Act.put, qA, qB, qC]
    go_simp
    refine hK _ _ ⟨e0, e1, e2, e3, .tuple #[bkAt bk0 P, .bool false], .tuple #[bkAt bk0 P, .bool false], bkAt bk0 P, e7, e8, e10, P, gb, ?_, hB, c0, c1, c2, c3, fun _ => ⟨h3, rfl⟩, fun _ => ⟨h4, rfl⟩, fun _ => ⟨h4, rfl⟩, c7, c8, c9, c10, ck, cx, co, cz⟩
    simp only [putAll, Act.put, qA, qB, qC]
    all_goals rfl
  | 7, _, hd, hk =>
    have h5 : d 5 = true := hk 5 (by decide +kernel)
    obtain ⟨h4, rfl⟩ := c5 h5
    obtain ⟨h3, rfl⟩ := c4 h4
    apply wpOp_at
    case ho => rfl
    intro K hK
    simp only [putAll, Act.put, qA, qB, qC]
    go_simp
    refine hK _ _ ⟨e0, e1, e2, e3, .tuple #[bkAt bk0 P, .bool false], .tuple #[bkAt bk0 P, .bool false], e6, .bool false, e8, e10, P, gb, ?_, hB, c0, c1, c2, c3, fun _ => ⟨h3, rfl⟩, fun _ => ⟨h4, rfl⟩, c6, fun _ => rfl, c8, c9, c10, ck, cx, co, cz⟩
    simp only [putAll, Act.put, qA, qB, qC]
    all_goals rfl
  | 8, _, hd, hk =>
    have hb := below_box w' (.cells (bkCells bk0 (.slice none 0 0) (.slice none 0 0) (.slice none 0 0) (.slice none 0 0) (.slice none 0 0) (.slice none 0 0) (.slice none 0 0)) 37)
    apply wpOp_at
    case ho => rfl
    intro K hK
    simp only [putAll, Act.put, qA, qB, qC]
    go_simp
    refine hK _ _ ⟨e0, e1, e2, e3, e4, e5, e6, e7, .pointer (some ⟨w'.heap.size, 0, none⟩), e10, P, w'.heap.size, ?_, hB.trans (hb.mono hB.size), c0, c1, fun h h3 => by
     obtain ⟨h0, e, hw⟩ := c2 h h3
     exact ⟨h0, e, hw.later hb hw.lt⟩, fun h => ⟨(c3 h).1, fun h4 => by
     obtain ⟨A, C, e, hb3, hc⟩ := (c3 h).2 h4
     exact ⟨A, C, e, hb3.later hb, hc⟩⟩, c4, c5, c6, c7, fun _ => ⟨rfl, cz, by simp, fun _ => Whole.made w' _ _⟩, fun h => Bool.noConfusion (hd.symm.trans (c9 h).2.1), c10, ck.later hb ck.lt, fun g h1 h2 => (hb.block g (Nat.lt_of_lt_of_le h2 (Nat.le_trans h5s cz))).trans (cx g h1 h2), fun h => (co h).later hb, Nat.le_trans cz hb.size⟩
    simp only [putAll, Act.put, qA, qB, qC]
    all_goals rfl
  | 9, _, hd, hk =>
    have h6 : d 6 = true := hk 6 (by decide +kernel)
    have h8 : d 8 = true := hk 8 (by decide +kernel)
    obtain ⟨h4, rfl⟩ := c6 h6
    obtain ⟨h3, rfl⟩ := c4 h4
    obtain ⟨rfl, hgb, hgl9, hw0⟩ := c8 h8
    have hZ := hw0 hd
    have y0 := hZ.free 0
    have y1 := hZ.free 1
    have y2 := hZ.free 2
    have y3 := hZ.free 3
    have y4 := hZ.free 4
    have y5 := hZ.free 5
    have y6 := hZ.free 6
    have y7 := hZ.free 7
    have y8 := hZ.free 8
    have y9 := hZ.free 9
    have y10 := hZ.free 10
    have y11 := hZ.free 11
    obtain ⟨⟨z0, z1, z2, z3⟩, ⟨z4, z5, z6, z7⟩, z8, z9, z10, z11⟩ := bk_cells hZ
    have hlb := bk12_below (g := gb) (x := bk0) (rv := .slice P.a1 P.m1 P.c1) (lv := .slice P.a2 P.m2 P.c2) (ov := .slice P.a3 P.m3 P.c3) (nv := .slice P.a4 P.m4 P.c4) (tv := .slice P.al.a1 P.al.m1 P.al.c1) (uv := .slice P.al.a2 P.al.m2 P.al.c2) (iv := .slice P.al.a3 P.al.m3 P.al.c3) (Below.refl gb w') (Nat.le_refl _)
    have hlow : ∀ k, k < gb → (bk12 w' gb bk0 (.slice P.a1 P.m1 P.c1) (.slice P.a2 P.m2 P.c2) (.slice P.a3 P.m3 P.c3) (.slice P.a4 P.m4 P.c4) (.slice P.al.a1 P.al.m1 P.al.c1) (.slice P.al.a2 P.al.m2 P.al.c2) (.slice P.al.a3 P.al.m3 P.al.c3)).heap[k]? = w'.heap[k]? := fun k hk => hlb.block k hk
    apply wpOp_at
    case ho => rfl
    intro K hK
    simp only [putAll, Act.put, qA, qB, qC]
    go_simp
    refine hK _ _ ⟨e0, e1, e2, e3, .tuple #[bkAt bk0 P, .bool false], e5, bkAt bk0 P, e7, .pointer (some ⟨gb, 0, none⟩), e10, P, gb, ?_, bk12_below (g := gb) (x := bk0) (rv := .slice P.a1 P.m1 P.c1) (lv := .slice P.a2 P.m2 P.c2) (ov := .slice P.a3 P.m3 P.c3) (nv := .slice P.a4 P.m4 P.c4) (tv := .slice P.al.a1 P.al.m1 P.al.c1) (uv := .slice P.al.a2 P.al.m2 P.al.c2) (iv := .slice P.al.a3 P.al.m3 P.al.c3) hB (by have := Hsz.out; have := Hb25.out.size; omega), c0, c1, fun _ h => absurd (h3.symm.trans h) (by decide), fun h => ⟨(c3 h).1, fun h => absurd (h4.symm.trans h) (by decide)⟩, fun _ => ⟨h3, rfl⟩, c5, fun _ => ⟨h4, rfl⟩, c7, fun _ => ⟨rfl, hgb, Nat.lt_of_lt_of_le hgl9 hlb.size, fun h => Bool.noConfusion (show true = false from h)⟩, fun _ => ⟨h3, h8, h4⟩, c10, (hlow g4 (by have := HK.out.lt; omega)).trans ck, fun g h1 h2 => (hlow g (Nat.lt_of_lt_of_le h2 (Nat.le_trans h5s hgb))).trans (cx g h1 h2), fun h => absurd (h3.symm.trans h) (by decide), Nat.le_trans cz hlb.size⟩
    simp only [putAll, Act.put, qA, qB, qC]
    all_goals rfl
  | 10, _, hd, hk =>
    have h7 : d 7 = true := hk 7 (by decide +kernel)
    obtain rfl := c7 h7
    apply wpOp_at
    case ho => rfl
    intro K hK
    simp only [putAll, Act.put, qA, qB, qC]
    go_simp
    refine hK _ _ ⟨e0, e1, e2, e3, e4, e5, e6, .bool false, e8, .bool false, P, gb, ?_, hB, c0, c1, c2, c3, c4, c5, c6, fun _ => rfl, c8, c9, fun _ => rfl, ck, cx, co, cz⟩
    simp only [putAll, Act.put, qA, qB, qC]
    all_goals rfl
  | k + 11, hi, _, _ => exact absurd hi (by simp)
 case ends =>
  intro d a' w6 hJ hall
  obtain ⟨e0, e1, e2, e3, e4, e5, e6, e7, e8, e10, P, gb, rfl, hC⟩ := hJ
  obtain ⟨hB, hC⟩ := hC
  obtain ⟨c0, hC⟩ := hC
  obtain ⟨c1, hC⟩ := hC
  obtain ⟨c2, hC⟩ := hC
  obtain ⟨c3, hC⟩ := hC
  obtain ⟨c4, hC⟩ := hC
  obtain ⟨c5, hC⟩ := hC
  obtain ⟨c6, hC⟩ := hC
  obtain ⟨c7, hC⟩ := hC
  obtain ⟨c8, hC⟩ := hC
  obtain ⟨c9, hC⟩ := hC
  obtain ⟨c10, hC⟩ := hC
  obtain ⟨ck, hC⟩ := hC
  obtain ⟨cx, hC⟩ := hC
  obtain ⟨co, hC⟩ := hC
  have cz := hC
  clear hC
  obtain rfl := c10 (hall 10 (by decide +kernel))
  obtain rfl := c7 (hall 7 (by decide +kernel))
  have HKe := Lib.hid ck
  have HIe := Lib.hid (HK4.out w6 (Nat.le_trans h5s cz) cx)
  have HBe := Lib.hid hB
  have Hbe := Lib.hid (held_next Hb2.out hB)
  clear c0 c1 c2 c3 c4 c5 c6 c7 c8 c9 c10 hall ck cx co cz hB
  simp only [putAll, Act.put, qA, qB, qC]
  have HX6 := Lib.hid (HX2.out.later HBe.out HX2.out.lt)
  have HW6 := Lib.hid (HW2.out.later HBe.out HW2.out.lt)
  have HM6 := Lib.hid (HM2.out.later HBe.out)
  obtain ⟨d0, d1, d2, d3, d4, d5⟩ := config_cells HW6.out
  obtain ⟨⟨z0, z1, z2, z3⟩, ⟨z4, z5, z6, z7⟩, z8, z9, z10, z11⟩ := bk_cells HX6.out
  have hcall := kMay_calls wakeC17 0 wakeK17 p1 w6 HM6.out
  rw [show bookB wakeC17 0 wakeK17 = true from decide_eq_true wake_may17] at hcall
  have Hcall := Lib.hid hcall; clear hcall
  go_wp2_with fail
  refine Hcall.out.mono ?_
  rintro e w7 ⟨rfl, hb⟩
  have HX7 := Lib.hid (HX6.out.later hb HX6.out.lt)
  have HK7 := Lib.hid (HKe.out.later hb HKe.out.lt)
  have HW7 := Lib.hid (HW6.out.later hb HW6.out.lt)
  have HM7 := Lib.hid (HM6.out.later hb)
  have HI7 := Lib.hid (HIe.out.later hb)
  have Hb7 := Lib.hid (held_next Hbe.out hb)
  clear hb d0 d1 d2 d3 d4 d5 z0 z1 z2 z3 z4 z5 z6 z7 z8 z9 z10 z11 Hcall
  obtain ⟨d0, d1, d2, d3, d4, d5⟩ := config_cells HW7.out
  go_wp2_with fail
  refine (kBound_calls wakeC17 _).mono ?_
  rw [show boundV wakeC17 = 624 by decide]
  rintro e w8 ⟨rfl, hb⟩
  have HX8 := Lib.hid (HX7.out.later hb HX7.out.lt)
  have HK8 := Lib.hid (HK7.out.later hb HK7.out.lt)
  have HM8 := Lib.hid (HM7.out.later hb)
  have HI8 := Lib.hid (HI7.out.later hb)
  have Hb8 := Lib.hid (held_next Hb7.out hb)
  clear hb d0 d1 d2 d3 d4 d5
  obtain ⟨⟨z0, z1, z2, z3⟩, ⟨z4, z5, z6, z7⟩, z8, z9, z10, z11⟩ := bk_cells HX8.out
  obtain ⟨⟨y0, y1, y2, y3⟩, ⟨y4, y5, y6, y7⟩, y8, y9, y10, y11⟩ := bk_cells HK8.out
  have Hcall := Lib.hid (refksame_calls wakeK17 wakeK17 p4 p1 w8 HI8.out HM8.out true (iff_of_true rfl rfl))
  go_wp2_with fail
  refine Hcall.out.mono ?_
  rintro e w9 ⟨rfl, hb⟩
  have Hb9 := Lib.hid (held_next Hb8.out hb)
  clear hb
  go_wp2_with fail
  go_ret
  exact ⟨by rfl, Hb9.out⟩
end Go.Proofs.YtnkgakhnlbifdaaGreat
namespace Go.Proofs.YtnkgakhnlbifdaaGreat
open Go.RowKit
set_option maxRecDepth 100000 in
set_option maxHeartbeats 8000000 in
theorem booktakes_law (c : Cf) (who : Int) (a : Option Addr) (n d : Nat) (zs : List Int) (hn : n = zs.length) (hnd : n ≤ d) (w : World) (hB : Bytes w (.slice a n d) zs) :
 Calls Tryz.prog 3 #[cfV c, .int .i64 who, .slice a n d] w (Says w true) := by
 have hbig : n ≤ 9223372036854775807 := by rw [hn]; exact hB.1
 have HW := Lib.hid (Whole.made w 23 (cfCells c))
 have Hb0 := Lib.hid (below_box w (.cells (cfCells c) 23))
 have HB := Lib.hid hB; clear hB
 have Hn := Lib.hid hn; clear hn
 obtain ⟨nn, q, r, p, kk, cc⟩ := c
 obtain ⟨res, Hres⟩ : ∃ z, Hid (takeK ⟨nn, q, r, p, kk, cc⟩ who zs = z) := ⟨_, rfl⟩
 have hmt := fun w hw hl => (kTake_calls ⟨nn, q, r, p, kk, cc⟩ who a n d zs w hw Hn.out hnd hl).mono fun _ _ h => TookKH.took h
 have hrt := fun w hw => refktake_calls ⟨nn, q, r, p, kk, cc⟩ who a n d zs w hw Hn.out hnd
 rw [Hres.out] at hmt hrt
 have Hmt := Lib.hid hmt; have Hrt := Lib.hid hrt
 clear hmt hrt
 go_enter Tryz.func3, Tryz.ntmps3
 go_wp2_with fail
 refine (awake17 _).mono ?_
 rintro e w1 ⟨rfl, hb⟩
 have Hb1 := Lib.hid (held_next Hb0.out hb)
 have HW1 := Lib.hid (HW.out.later hb HW.out.lt)
 clear hb
 by_cases h2 : 2000 < n
 · have h2' : (2000 : Int) < (n : Int) := by omega
   go_wp2_with fail
   go_ret
   exact ⟨by rfl, Hb1.out⟩
 have h2' : ¬ (2000 : Int) < (n : Int) := by omega
 obtain ⟨d0, d1, d2, d3, d4, d5⟩ := config_cells HW1.out
 simp only at d0 d1 d2 d3 d4 d5
 go_wp2_with fail
 refine (Hmt.out _ (HB.out.later Hb1.out) (by have := Hn.out; omega)).mono ?_
 rintro e w2 ⟨p1, rfl, hM, hb⟩
 obtain ⟨x, Hx⟩ : ∃ z, Hid (res.getD bk0 = z) := ⟨_, rfl⟩
 rw [Hx.out] at hM ⊢
 have hb2 := held_next hb (below_box w2 (.cells (bkAtC x p1) 37))
 have HX2 := Lib.hid (Whole.made w2 37 (bkAtC x p1))
 have HM2 := Lib.hid (hM.later (below_box w2 (.cells (bkAtC x p1) 37)))
 have Hb2 := Lib.hid (held_next Hb1.out hb2)
 have HW2 := Lib.hid (HW1.out.later hb2 HW1.out.lt)
 clear hb hb2 hM d0 d1 d2 d3 d4 d5
 obtain ⟨d0, d1, d2, d3, d4, d5⟩ := config_cells HW2.out
 simp only at d0 d1 d2 d3 d4 d5
 go_wp2_with fail
 refine (Hrt.out _ (HB.out.later Hb2.out)).mono ?_
 rintro e w3 ⟨p2, rfl, hM, hb⟩
 rw [Hx.out] at hM ⊢
 have hb3 := held_next hb (below_box w3 (.cells (bkAtC x p2) 37))
 have HX3 := Lib.hid (Whole.made w3 37 (bkAtC x p2))
 have HN3 := Lib.hid (hM.later (below_box w3 (.cells (bkAtC x p2) 37)))
 have HM3 := Lib.hid (HM2.out.later hb3)
 have HX2' := Lib.hid (HX2.out.later hb3 HX2.out.lt)
 have Hb3 := Lib.hid (held_next Hb2.out hb3)
 clear hb hb3 hM d0 d1 d2 d3 d4 d5
 have hlt2 : w2.heap.size < w3.heap.size + 1 := by
  have h := HX2'.out.lt
  simpa using h
 obtain ⟨⟨M0, M1, M2, M3⟩, ⟨M4, M5, M6, M7⟩, M8, M9, M10, M11⟩ := bk_cells HX2'.out
 obtain ⟨⟨N0, N1, N2, N3⟩, ⟨N4, N5, N6, N7⟩, N8, N9, N10, N11⟩ := bk_cells HX3.out
 have Hcall := Lib.hid (refksame_calls x x p1 p2 _ HM3.out HN3.out true (iff_of_true rfl rfl))
 go_wp2_with fail
 refine Hcall.out.mono ?_
 rintro e w4 ⟨rfl, hb⟩
 have Hb4 := Lib.hid (held_next Hb3.out hb)
 clear hb
 go_wp2_with fail
 go_ret
 exact ⟨by simp, Hb4.out⟩
end Go.Proofs.YtnkgakhnlbifdaaGreat
