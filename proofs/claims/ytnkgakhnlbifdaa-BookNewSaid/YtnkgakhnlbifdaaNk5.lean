/- Parts, as far as BookNewCards reaches them, of: RefBookNew, GoodB, MailRead, MailGo. No law is proved here. -/
import Derived.Test.YtnkgakhnlbifdaaNk4
import Derived.Test.YtnkgakhnlbifdaaNk2
import Derived.IntWalk
import Derived.BigRegion
import Derived.Test.YtnkgakhnlbifdaaNk0
namespace Go.Proofs.Ytnkgakhnlbifdaa
open Go.RowKit
set_option maxRecDepth 100000 in
set_option maxHeartbeats 8000000 in
theorem refknew_calls (c : Cf) (who : Int) (w : World) : Calls Try.prog 6 #[cfV c, .int .i64 who] w (GaveK w (newK c who)) := by
 have HW := Lib.hid ((Whole.made w 23 (cfCells c)).alloc (.cells (bkCells bk0 (.slice none 0 0) (.slice none 0 0) (.slice none 0 0) (.slice none 0 0) (.slice none 0 0) (.slice none 0 0) (.slice none 0 0)) 36))
 have HZ := Lib.hid (Whole.made2 w (.cells (cfCells c) 23) 36 (bkCells bk0 (.slice none 0 0) (.slice none 0 0) (.slice none 0 0) (.slice none 0 0) (.slice none 0 0) (.slice none 0 0) (.slice none 0 0)))
 have Hb0 := Lib.hid (below_two w (.cells (cfCells c) 23) (.cells (bkCells bk0 (.slice none 0 0) (.slice none 0 0) (.slice none 0 0) (.slice none 0 0) (.slice none 0 0) (.slice none 0 0) (.slice none 0 0)) 36))
 obtain ⟨nn, q, r, p, kk, cc⟩ := c
 obtain ⟨ok, Hok⟩ : ∃ z, Hid (cfB ⟨nn, q, r, p, kk, cc⟩ = z) := ⟨_, rfl⟩
 obtain ⟨res, Hres⟩ : ∃ z, Hid (newK ⟨nn, q, r, p, kk, cc⟩ who = z) := ⟨_, Lib.hid rfl⟩
 have hcall := fun w => refcfg_calls ⟨nn, q, r, p, kk, cc⟩ w
 rw [Hok.out] at hcall
 have Hcall := Lib.hid hcall
 clear hcall
 rw [Hres.out]
 go_enter Try.func6, Try.ntmps6
 go_wp2_with fail
 refine (Hcall.out _).mono ?_
 rintro e w1 ⟨rfl, hb⟩
 have Hb1 := Lib.hid (held_next Hb0.out hb)
 have HW1 := Lib.hid (HW.out.later hb HW.out.lt)
 have HZ1 := Lib.hid (HZ.out.later hb HZ.out.lt)
 clear hb
 have hlt1 := HZ1.out.lt
 obtain ⟨d0, d1, d2, d3, d4, d5⟩ := config_cells HW1.out
 simp only at d0 d1 d2 d3 d4 d5
 by_cases hall : cfOk ⟨nn, q, r, p, kk, cc⟩ ∧ 0 ≤ who ∧ who < nn
 · obtain ⟨hc, hw0, hwn⟩ := hall
   obtain rfl : ok = true := Hok.out.symm.trans (cfB_yes hc)
   obtain ⟨N, hN⟩ : ∃ N : Nat, nn = (N : Int) := ⟨nn.toNat, by have h : 1 ≤ nn := hc.1; omega⟩
   subst hN
   have h16 : N ≤ 16 := by have h : (N : Int) ≤ 16 := hc.2.1; omega
   obtain ⟨L, HL⟩ : ∃ z, Hid (newL ⟨(N : Int), q, r, p, kk, cc⟩ = z) := ⟨_, Lib.hid rfl⟩
   have hlen : L.length = N ∧ ∀ k, k < L.length → (at_ L k).out.length ≤ 1000 := by
    have e : newL ⟨(N : Int), q, r, p, kk, cc⟩ = List.replicate N (zeroRow N) := by
     show (if cfOk ⟨(N : Int), q, r, p, kk, cc⟩ then List.replicate ((N : Int)).toNat (zeroRow ((N : Int)).toNat) else []) = _
     rw [if_pos hc, Int.toNat_natCast]
    rw [← HL.out, e]
    refine ⟨List.length_replicate, fun k hk => ?_⟩
    rw [List.length_replicate] at hk
    unfold at_
    rw [List.getElem?_replicate, if_pos hk]
    show (zeroRow N).out.length ≤ 1000
    simp only [zeroRow, List.length_replicate]
    omega
   have Hlen := Lib.hid hlen
   have hx : newK ⟨(N : Int), q, r, p, kk, cc⟩ who = (⟨0, L, [], [], 0, List.replicate N nt0, au0⟩, 0) := by
    show (if cfOk ⟨(N : Int), q, r, p, kk, cc⟩ ∧ 0 ≤ who ∧ who < (N : Int) then _ else _) = _
    rw [if_pos ⟨hc, hw0, hwn⟩, HL.out]
    show (_, _) = (_, _)
    rw [Int.toNat_natCast]
   obtain rfl : res = (⟨0, L, [], [], 0, List.replicate N nt0, au0⟩, 0) := Hres.out.symm.trans hx
   have g1 : ¬ who < 0 := by omega
   have g2 : ¬ (N : Int) ≤ who := by omega
   have Hc := Lib.hid hc
   clear hc hx hlen hwn hw0
   have hmk : ∀ w : World, (Instr.makeSlice 28 (.int .i64 (N : Int)) (.int .i64 (N : Int))).run Try.prog w = .ok (.slice (some ⟨w.heap.size, 0, none⟩) N N) (w.alloc (.cells (madeCells zero7 (N * 7)) 70)) := fun w => run_make_notes (by omega)
   go_wp2_with fail
   refine wp_region_each_at ?hm ?hb (fun a0 d a' w' => ∃ (e0 e1 e2 e3 e4 e5 e7 : Value) (A1 : Option Addr) (C1 g4 : Nat), a' = putAll a0 [(20, e0), (21, e1), (22, e2), (23, e3), (24, e4), (25, e5), (5, e7)] ∧ Below w.heap.size w w' ∧ (d 0 = true → e0 = (cfV ⟨(N : Int), q, r, p, kk, cc⟩)) ∧ (d 1 = true → (e1 = .slice A1 L.length C1 ∧ ∃ B, w1.heap.size ≤ B ∧ OwnBooks w' B (.slice A1 L.length C1) L)) ∧ (d 2 = true → e2 = (.pointer (some ⟨w.heap.size, 0, none⟩))) ∧ (d 3 = true → e3 = (.int .i64 (N : Int))) ∧ (d 4 = true → (e4 = .slice (some ⟨g4, 0, none⟩) N N ∧ Notes w' (.slice (some ⟨g4, 0, none⟩) N N) (List.replicate N nt0) ∧ w1.heap.size ≤ g4)) ∧ (d 5 = true → (d 1 = true ∧ d 4 = true ∧ e5 = .agg (bkCells ⟨0, L, [], [], 0, List.replicate N nt0, au0⟩ (.slice A1 L.length C1) (.slice none 0 0) (.slice none 0 0) (.slice (some ⟨g4, 0, none⟩) N N) (.slice none 0 0) (.slice none 0 0) (.slice none 0 0)))) ∧ (d 6 = true → (d 1 = true ∧ d 4 = true ∧ d 5 = true ∧ Whole w' (w.heap.size + 1) 36 (bkCells ⟨0, L, [], [], 0, List.replicate N nt0, au0⟩ (.slice A1 L.length C1) (.slice none 0 0) (.slice none 0 0) (.slice (some ⟨g4, 0, none⟩) N N) (.slice none 0 0) (.slice none 0 0) (.slice none 0 0)))) ∧ (d 7 = true → (e7 = .int .i64 0)) ∧ (d 6 = false → Whole w' (w.heap.size + 1) 36 (bkCells bk0 (.slice none 0 0) (.slice none 0 0) (.slice none 0 0) (.slice none 0 0) (.slice none 0 0) (.slice none 0 0) (.slice none 0 0))) ∧ Whole w' w.heap.size 23 (cfCells ⟨(N : Int), q, r, p, kk, cc⟩) ∧ w1.heap.size ≤ w'.heap.size) ?h0 ?step ?ends
   case hm => kernel_rfl
   case hb => kernel_rfl
   case h0 =>
    refine ⟨undef, undef, undef, undef, undef, undef, .int .i64 0, none, 0, 0, ?_, Hb1.out.drew, fun h => absurd h (by decide), fun h => absurd h (by decide), fun h => absurd h (by decide), fun h => absurd h (by decide), fun h => absurd h (by decide), fun h => absurd h (by decide), fun h => absurd h (by decide), fun h => absurd h (by decide), fun _ => HZ1.out.drew, HW1.out.drew, Nat.le_refl _⟩
    simp only [putAll, Act.put, List.setIfInBounds_toArray, List.set_cons_zero, List.set_cons_succ]
   case step =>
    intro i d a' w' hi hJ hd hk
    obtain ⟨e0, e1, e2, e3, e4, e5, e7, A1, C1, g4, rfl, hB, c0, c1, c2, c3, c4, c5, c6, c7, cg, cw, cz⟩ := hJ
    match i, hi, hd, hk with
    | 0, _, hd, hk =>
      obtain ⟨z0, z1, z2, z3, z4, z5⟩ := config_cells cw
      simp only at z0 z1 z2 z3 z4 z5
      apply wpOp_at
      case ho => rfl
      intro K hK
      simp only [putAll, Act.put, List.setIfInBounds_toArray, List.set_cons_zero, List.set_cons_succ]
      go_simp
      refine hK _ _ ⟨(cfV ⟨(N : Int), q, r, p, kk, cc⟩), e1, e2, e3, e4, e5, e7, A1, C1, g4, ?_, hB, fun _ => rfl, c1, c2, c3, c4, c5, c6, c7, cg, cw, cz⟩
      simp only [putAll, Act.put, List.setIfInBounds_toArray, List.set_cons_zero, List.set_cons_succ]
      all_goals rfl
    | 1, _, hd, hk =>
      have h0 : d 0 = true := hk 0 (by decide +kernel)
      obtain rfl := c0 h0
      apply wpOp_at
      case ho => rfl
      intro K hK
      simp only [putAll, Act.put, List.setIfInBounds_toArray, List.set_cons_zero, List.set_cons_succ]
      go_simp
      refine (refnew_calls ⟨(N : Int), q, r, p, kk, cc⟩ w').mono ?_
      rw [HL.out]
      rintro e w'' ⟨A, C, rfl, hO, hb⟩
      refine hK _ _ ⟨(cfV ⟨(N : Int), q, r, p, kk, cc⟩), .slice A L.length C, e2, e3, e4, e5, e7, A, C, g4, ?_, hB.trans (hb.mono hB.size), c0, fun _ => ⟨rfl, _, cz, hO⟩, c2, c3, fun h => ⟨(c4 h).1, (c4 h).2.1.later hb, (c4 h).2.2⟩, fun h => Bool.noConfusion (hd.symm.trans (c5 h).1), fun h => Bool.noConfusion (hd.symm.trans (c6 h).1), c7, fun h => (cg h).later hb (cg h).lt, cw.later hb cw.lt, Nat.le_trans cz hb.size⟩
      simp only [putAll, Act.put, List.setIfInBounds_toArray, List.set_cons_zero, List.set_cons_succ]
      all_goals rfl
    | 2, _, hd, hk =>
      apply wpOp_at
      case ho => rfl
      intro K hK
      simp only [putAll, Act.put, List.setIfInBounds_toArray, List.set_cons_zero, List.set_cons_succ]
      go_simp
      refine hK _ _ ⟨e0, e1, (.pointer (some ⟨w.heap.size, 0, none⟩)), e3, e4, e5, e7, A1, C1, g4, ?_, hB, c0, c1, fun _ => rfl, c3, c4, c5, c6, c7, cg, cw, cz⟩
      simp only [putAll, Act.put, List.setIfInBounds_toArray, List.set_cons_zero, List.set_cons_succ]
      all_goals rfl
    | 3, _, hd, hk =>
      have h2 : d 2 = true := hk 2 (by decide +kernel)
      obtain rfl := c2 h2
      obtain ⟨z0, z1, z2, z3, z4, z5⟩ := config_cells cw
      simp only at z0 z1 z2 z3 z4 z5
      apply wpOp_at
      case ho => rfl
      intro K hK
      simp only [putAll, Act.put, List.setIfInBounds_toArray, List.set_cons_zero, List.set_cons_succ]
      go_simp
      refine hK _ _ ⟨e0, e1, (.pointer (some ⟨w.heap.size, 0, none⟩)), (.int .i64 (N : Int)), e4, e5, e7, A1, C1, g4, ?_, hB, c0, c1, c2, fun _ => rfl, c4, c5, c6, c7, cg, cw, cz⟩
      simp only [putAll, Act.put, List.setIfInBounds_toArray, List.set_cons_zero, List.set_cons_succ]
      all_goals rfl
    | 4, _, hd, hk =>
      have h3 : d 3 = true := hk 3 (by decide +kernel)
      obtain rfl := c3 h3
      have hb := below_box w' (.cells (madeCells zero7 (N * 7)) 70)
      have hnt := notes_zero (m := N) (by omega) (Whole.made w' 70 (madeCells zero7 (N * 7)))
      apply wpOp_at
      case ho => rfl
      intro K hK
      simp only [putAll, Act.put, List.setIfInBounds_toArray, List.set_cons_zero, List.set_cons_succ]
      go_simp
      refine hK _ _ ⟨e0, e1, e2, (.int .i64 (N : Int)), .slice (some ⟨w'.heap.size, 0, none⟩) N N, e5, e7, A1, C1, w'.heap.size, ?_, hB.trans (hb.mono hB.size), c0, fun h => by
       obtain ⟨h1, B, h2, h3⟩ := c1 h
       exact ⟨h1, B, h2, h3.later hb⟩, c2, c3, fun _ => ⟨rfl, hnt, cz⟩, fun h => Bool.noConfusion (hd.symm.trans (c5 h).2.1), fun h => Bool.noConfusion (hd.symm.trans (c6 h).2.1), c7, fun h => (cg h).later hb (cg h).lt, cw.later hb cw.lt, Nat.le_trans cz hb.size⟩
      simp only [putAll, Act.put, List.setIfInBounds_toArray, List.set_cons_zero, List.set_cons_succ]
      all_goals rfl
    | 5, _, hd, hk =>
      have h1 : d 1 = true := hk 1 (by decide +kernel)
      have h4 : d 4 = true := hk 4 (by decide +kernel)
      obtain ⟨rfl, hp1⟩ := c1 h1
      obtain ⟨rfl, hp4⟩ := c4 h4
      apply wpOp_at
      case ho => rfl
      intro K hK
      simp only [putAll, Act.put, List.setIfInBounds_toArray, List.set_cons_zero, List.set_cons_succ]
      go_simp
      refine hK _ _ ⟨e0, .slice A1 L.length C1, e2, e3, .slice (some ⟨g4, 0, none⟩) N N, .agg (bkCells ⟨0, L, [], [], 0, List.replicate N nt0, au0⟩ (.slice A1 L.length C1) (.slice none 0 0) (.slice none 0 0) (.slice (some ⟨g4, 0, none⟩) N N) (.slice none 0 0) (.slice none 0 0) (.slice none 0 0)), e7, A1, C1, g4, ?_, hB, c0, fun _ => ⟨rfl, hp1⟩, c2, c3, fun _ => ⟨rfl, hp4⟩, fun _ => ⟨h1, h4, rfl⟩, fun h => ⟨(c6 h).1, (c6 h).2.1, rfl, (c6 h).2.2.2⟩, c7, cg, cw, cz⟩
      simp only [putAll, Act.put, List.setIfInBounds_toArray, List.set_cons_zero, List.set_cons_succ]
      all_goals rfl
    | 6, _, hd, hk =>
      have h5 : d 5 = true := hk 5 (by decide +kernel)
      obtain ⟨h1, h4, rfl⟩ := c5 h5
      obtain ⟨rfl, B, hB1, hO1⟩ := c1 h1
      obtain ⟨rfl, hn4, hg4⟩ := c4 h4
      have hZ := cg hd
      have y0 := hZ.free 0
      have y1 := hZ.free 1
      have y2 := hZ.free 2
      have y3 := hZ.free 3
      have y4 := hZ.free 4
      have y5 := hZ.free 5
      have y6 := hZ.free 6
      have y7 := hZ.free 7
      have y8 := hZ.free 8
      have y9 := hZ.free 9
      have y10 := hZ.free 10
      have y11 := hZ.free 11
      obtain ⟨⟨z0, z1, z2, z3⟩, ⟨z4, z5, z6, z7⟩, z8, z9, z10, z11⟩ := bk_cells hZ
      have hwh := bk12_whole (x := ⟨0, L, [], [], 0, List.replicate N nt0, au0⟩) (rv := .slice A1 L.length C1) (lv := .slice none 0 0) (ov := .slice none 0 0) (nv := .slice (some ⟨g4, 0, none⟩) N N) (tv := .slice none 0 0) (uv := .slice none 0 0) (iv := .slice none 0 0) hZ
      have hbl := bk12_below (g := w.heap.size + 1) (x := ⟨0, L, [], [], 0, List.replicate N nt0, au0⟩) (rv := .slice A1 L.length C1) (lv := .slice none 0 0) (ov := .slice none 0 0) (nv := .slice (some ⟨g4, 0, none⟩) N N) (tv := .slice none 0 0) (uv := .slice none 0 0) (iv := .slice none 0 0) hB (by omega)
      have hlb := bk12_below (g := w.heap.size + 1) (x := ⟨0, L, [], [], 0, List.replicate N nt0, au0⟩) (rv := .slice A1 L.length C1) (lv := .slice none 0 0) (ov := .slice none 0 0) (nv := .slice (some ⟨g4, 0, none⟩) N N) (tv := .slice none 0 0) (uv := .slice none 0 0) (iv := .slice none 0 0) (Below.refl (w.heap.size + 1) w') (Nat.le_refl _)
      have hO6 := bk12_own (g := w.heap.size + 1) (x := ⟨0, L, [], [], 0, List.replicate N nt0, au0⟩) (rv := .slice A1 L.length C1) (lv := .slice none 0 0) (ov := .slice none 0 0) (nv := .slice (some ⟨g4, 0, none⟩) N N) (tv := .slice none 0 0) (uv := .slice none 0 0) (iv := .slice none 0 0) hO1 (by omega)
      have hN6 := bk12_notes (g := w.heap.size + 1) (x := ⟨0, L, [], [], 0, List.replicate N nt0, au0⟩) (rv := .slice A1 L.length C1) (lv := .slice none 0 0) (ov := .slice none 0 0) (nv := .slice (some ⟨g4, 0, none⟩) N N) (tv := .slice none 0 0) (uv := .slice none 0 0) (iv := .slice none 0 0) hn4 List.length_replicate.symm (fun ad had => by cases had; show g4 ≠ w.heap.size + 1; omega)
      apply wpOp_at
      case ho => rfl
      intro K hK
      simp only [putAll, Act.put, List.setIfInBounds_toArray, List.set_cons_zero, List.set_cons_succ]
      go_simp
      refine hK _ _ ⟨e0, .slice A1 L.length C1, e2, e3, .slice (some ⟨g4, 0, none⟩) N N, .agg (bkCells ⟨0, L, [], [], 0, List.replicate N nt0, au0⟩ (.slice A1 L.length C1) (.slice none 0 0) (.slice none 0 0) (.slice (some ⟨g4, 0, none⟩) N N) (.slice none 0 0) (.slice none 0 0) (.slice none 0 0)), e7, A1, C1, g4, ?_, hbl, c0, fun _ => ⟨rfl, B, hB1, hO6⟩, c2, c3, fun _ => ⟨rfl, hN6, hg4⟩, fun _ => ⟨h1, h4, rfl⟩, fun _ => ⟨h1, h4, h5, hwh⟩, c7, fun h => Bool.noConfusion (show true = false from h), cw.later hlb (Nat.lt_succ_self _), Nat.le_trans cz hlb.size⟩
      simp only [putAll, Act.put, List.setIfInBounds_toArray, List.set_cons_zero, List.set_cons_succ]
      all_goals rfl
    | 7, _, hd, hk =>
      have h6 : d 6 = true := hk 6 (by decide +kernel)
      obtain ⟨h1, h4, h5, hwh⟩ := c6 h6
      obtain ⟨rfl, hp1⟩ := c1 h1
      obtain ⟨rfl, hp4⟩ := c4 h4
      obtain ⟨_, _, rfl⟩ := c5 h5
      apply wpOp_at
      case ho => rfl
      intro K hK
      simp only [putAll, Act.put, List.setIfInBounds_toArray, List.set_cons_zero, List.set_cons_succ]
      go_simp
      refine hK _ _ ⟨e0, .slice A1 L.length C1, e2, e3, .slice (some ⟨g4, 0, none⟩) N N, .agg (bkCells ⟨0, L, [], [], 0, List.replicate N nt0, au0⟩ (.slice A1 L.length C1) (.slice none 0 0) (.slice none 0 0) (.slice (some ⟨g4, 0, none⟩) N N) (.slice none 0 0) (.slice none 0 0) (.slice none 0 0)), .int .i64 0, A1, C1, g4, ?_, hB, c0, fun _ => ⟨rfl, hp1⟩, c2, c3, fun _ => ⟨rfl, hp4⟩, fun _ => ⟨h1, h4, rfl⟩, c6, fun _ => rfl, cg, cw, cz⟩
      simp only [putAll, Act.put, List.setIfInBounds_toArray, List.set_cons_zero, List.set_cons_succ]
      all_goals rfl
    | k + 8, hi, _, _ => exact absurd hi (by simp)
   case ends =>
    intro d a' w9 hJ hall
    obtain ⟨e0, e1, e2, e3, e4, e5, e7, A1, C1, g4, rfl, hB, c0, c1, c2, c3, c4, c5, c6, c7, cg, cw, cz⟩ := hJ
    obtain ⟨h1, h4, h5, hwh⟩ := c6 (hall 6 (by decide +kernel))
    obtain ⟨rfl, B, hB1, hO1⟩ := c1 h1
    obtain ⟨rfl, hn4, hg4⟩ := c4 h4
    obtain ⟨_, _, rfl⟩ := c5 h5
    obtain rfl := c7 (hall 7 (by decide +kernel))
    have HE := Lib.hid hwh
    have HO := Lib.hid hO1
    have HN := Lib.hid hn4
    have HBE := Lib.hid hB
    clear c0 c1 c2 c3 c4 c5 c6 c7 cg cw cz hall hwh hO1 hn4 hB h1 h4 h5
    simp only [putAll, Act.put, List.setIfInBounds_toArray, List.set_cons_zero, List.set_cons_succ]
    obtain ⟨⟨Z0, Z1, Z2, Z3⟩, ⟨Z4, Z5, Z6, Z7⟩, Z8, Z9, Z10, Z11⟩ := bk_cells HE.out
    simp only at Z0 Z1 Z2 Z3 Z4 Z5 Z6 Z7 Z8 Z9 Z10 Z11
    go_wp2_with fail
    obtain ⟨A9, C9, e9, hbk⟩ := HO.out.books (by have := Hlen.out.1; omega) (fun k hk => by have := Hlen.out.2 k hk; omega)
    simp only [Value.slice.injEq] at e9
    obtain ⟨rfl, _, rfl⟩ := e9
    refine bodyPost_ret (v := .tuple #[bkAt ⟨0, L, [], [], 0, List.replicate N nt0, au0⟩ ⟨A1, L.length, C1, none, 0, 0, none, 0, 0, some ⟨g4, 0, none⟩, N, N, ⟨none, 0, 0, none, 0, 0, none, 0, 0⟩⟩, .int .i64 0]) (by simp [results, Try.results6, go_sem, Z0, Z1, Z2, Z3, Z4, Z5, Z6, Z7, Z8, Z9, Z10, Z11]) rfl ⟨_, rfl, ⟨⟨rfl, hbk⟩, ⟨rfl, Line.nil _ _ _ (fun _ => rfl)⟩, ⟨rfl, Line.nil _ _ _ (fun _ => rfl)⟩, ⟨List.length_replicate.symm, HN.out⟩, au_in0 _⟩, HBE.out⟩
 · have hno : newK ⟨nn, q, r, p, kk, cc⟩ who = (bk0, 1) := if_neg hall
   obtain rfl : res = (bk0, 1) := Hres.out.symm.trans hno
   clear hno
   have y0 := HZ1.out.free 0
   have y1 := HZ1.out.free 1
   have y2 := HZ1.out.free 2
   have y3 := HZ1.out.free 3
   have y4 := HZ1.out.free 4
   have y5 := HZ1.out.free 5
   have y6 := HZ1.out.free 6
   have y7 := HZ1.out.free 7
   have y8 := HZ1.out.free 8
   have y9 := HZ1.out.free 9
   have y10 := HZ1.out.free 10
   have y11 := HZ1.out.free 11
   obtain ⟨⟨z0, z1, z2, z3⟩, ⟨z4, z5, z6, z7⟩, z8, z9, z10, z11⟩ := bk_cells HZ1.out
   simp only at z0 z1 z2 z3 z4 z5 z6 z7 z8 z9 z10 z11
   have HZn := Lib.hid (bk12_whole (x := bk0) (rv := .slice none 0 0) (lv := .slice none 0 0) (ov := .slice none 0 0) (nv := .slice none 0 0) (tv := .slice none 0 0) (uv := .slice none 0 0) (iv := .slice none 0 0) HZ1.out)
   have hend : ∀ W, W = bk12 w1 (w.heap.size + 1) bk0 (.slice none 0 0) (.slice none 0 0) (.slice none 0 0) (.slice none 0 0) (.slice none 0 0) (.slice none 0 0) (.slice none 0 0) → Below w.heap.size w W := fun W e => by rw [e]; exact bk12_below Hb1.out (by omega)
   have Hend := Lib.hid hend
   clear hend
   have Hall := Lib.hid hall
   clear hall
   cases ok with
   | false =>
     go_wp2_with fail
     obtain ⟨⟨Z0, Z1, Z2, Z3⟩, ⟨Z4, Z5, Z6, Z7⟩, Z8, Z9, Z10, Z11⟩ := bk_cells HZn.out
     simp only [bk12] at Z0 Z1 Z2 Z3 Z4 Z5 Z6 Z7 Z8 Z9 Z10 Z11
     refine bodyPost_ret (v := .tuple #[bkAt bk0 bl0, .int .i64 1]) (by simp [results, Try.results6, go_sem, Z0, Z1, Z2, Z3, Z4, Z5, Z6, Z7, Z8, Z9, Z10, Z11]) rfl ⟨bl0, rfl, bk_in0 _, Hend.out _ rfl⟩
   | true =>
     have hor : who < 0 ∨ nn ≤ who := by
      have hc := cfB_ok Hok.out
      by_cases h1 : who < 0
      · exact Or.inl h1
      · by_cases h2 : nn ≤ who
        · exact Or.inr h2
        · exact absurd ⟨hc, by omega, by omega⟩ Hall.out
     by_cases h1 : who < 0
     · go_wp2_with fail
       obtain ⟨⟨Z0, Z1, Z2, Z3⟩, ⟨Z4, Z5, Z6, Z7⟩, Z8, Z9, Z10, Z11⟩ := bk_cells HZn.out
       simp only [bk12] at Z0 Z1 Z2 Z3 Z4 Z5 Z6 Z7 Z8 Z9 Z10 Z11
       refine bodyPost_ret (v := .tuple #[bkAt bk0 bl0, .int .i64 1]) (by simp [results, Try.results6, go_sem, Z0, Z1, Z2, Z3, Z4, Z5, Z6, Z7, Z8, Z9, Z10, Z11]) rfl ⟨bl0, rfl, bk_in0 _, Hend.out _ rfl⟩
     · have h2 : nn ≤ who := by omega
       clear hor
       go_wp2_with fail
       obtain ⟨⟨Z0, Z1, Z2, Z3⟩, ⟨Z4, Z5, Z6, Z7⟩, Z8, Z9, Z10, Z11⟩ := bk_cells HZn.out
       simp only [bk12] at Z0 Z1 Z2 Z3 Z4 Z5 Z6 Z7 Z8 Z9 Z10 Z11
       refine bodyPost_ret (v := .tuple #[bkAt bk0 bl0, .int .i64 1]) (by simp [results, Try.results6, go_sem, Z0, Z1, Z2, Z3, Z4, Z5, Z6, Z7, Z8, Z9, Z10, Z11]) rfl ⟨bl0, rfl, bk_in0 _, Hend.out _ rfl⟩
end Go.Proofs.Ytnkgakhnlbifdaa
namespace Go.Proofs.Ytnkgakhnlbifdaa
open Go.RowKit
def GoodB (w0 : World) (v : Value) (zs : List Int) : Prop := ∃ A n C, v = .slice A n C ∧ n = zs.length ∧ n ≤ C ∧ ∀ W, Below w0.heap.size w0 W → Bytes W (.slice A n C) zs
end Go.Proofs.Ytnkgakhnlbifdaa
namespace Go.Proofs.Ytnkgakhnlbifdaa
open Go.RowKit
theorem takeB_some {c : Cf} {zs rest : List Int} {l : List Rw} (h : takeB c zs = some (l, rest)) : Starts c zs l rest := by
 unfold takeB at h
 split at h
 · rename_i hex
   have e := Option.some.inj h
   have := hex.choose_spec
   rw [e] at this
   exact this
 · cases h
end Go.Proofs.Ytnkgakhnlbifdaa
namespace Go.Proofs.Ytnkgakhnlbifdaa
open Go.RowKit
open Classical in
noncomputable def rd1 (s : List Int × Bool) : Int × (List Int × Bool) := if h : ∃ x : Nat × List Int, PackMath.Begins s.1 x.1 x.2 then (IntKind.i64.wrap (h.choose.1 : Int), (h.choose.2, s.2)) else (0, ([], true))
theorem rd1_yes {zs rest : List Int} {v : Nat} {b : Bool} (h : PackMath.Begins zs v rest) : rd1 (zs, b) = (IntKind.i64.wrap (v : Int), (rest, b)) := by
 have hex : ∃ x : Nat × List Int, PackMath.Begins (zs, b).1 x.1 x.2 := ⟨(v, rest), h⟩
 unfold rd1
 rw [dif_pos hex]
 obtain ⟨e1, e2⟩ := hex.choose_spec.unique h
 rw [e1, e2]
theorem rd1_no {zs : List Int} {b : Bool} (h : PackMath.Bare zs) : rd1 (zs, b) = (0, ([], true)) := by
 unfold rd1
 exact dif_neg fun ⟨x, hx⟩ => h x.1 x.2 hx.1 hx.2
noncomputable def rdS (s : List Int × Bool) : Nat → List Int × Bool
 | 0 => s
 | k + 1 => (rd1 (rdS s k)).2
noncomputable def rdX (s : List Int × Bool) (k : Nat) : Int := (rd1 (rdS s k)).1
theorem rdS_add (s : List Int × Bool) (a b : Nat) : rdS (rdS s a) b = rdS s (a + b) := by
 induction b with
 | zero => rfl
 | succ b ih => show (rd1 (rdS (rdS s a) b)).2 = (rd1 (rdS s (a + b))).2; rw [ih]
theorem rdX_add (s : List Int × Bool) (a b : Nat) : rdX (rdS s a) b = rdX s (a + b) := by unfold rdX; rw [rdS_add]
theorem rdS_len (s : List Int × Bool) (k : Nat) : (rdS s k).1.length ≤ s.1.length := by
 induction k with
 | zero => exact Nat.le_refl _
 | succ k ih =>
   show (rd1 (rdS s k)).2.1.length ≤ _
   obtain ⟨z, b, e⟩ : ∃ z b, rdS s k = (z, b) := ⟨_, _, rfl⟩
   rw [e] at ih ⊢
   rcases PackMath.begins_or z with ⟨v, rest, hb⟩ | hb
   · rw [rd1_yes hb]
     have h := congrArg List.length hb.2
     rw [List.length_append] at h
     have ih' : z.length ≤ s.1.length := ih
     show rest.length ≤ _
     omega
   · rw [rd1_no hb]; exact Nat.zero_le _
theorem u64n_wrap {v : Nat} (h : v < 18446744073709551616) : u64n (IntKind.i64.wrap (v : Int)) = v := by rw [IntKind.wrap_i64]; unfold u64n; omega
theorem wrap_of_u64n {v : Int} (h0 : 0 ≤ v) (h1 : v ≤ 1125899906842624) : IntKind.i64.wrap ((u64n v : Nat) : Int) = v := by rw [u64n_of h0 (by omega)]; exact IntWalk.i64_in _ (by omega)
theorem rd_back {zs : List Int} {b : Bool} (k : Nat) : (rdS (zs, b) k).2 = false → b = false ∧ zs = bytesN ((List.range k).map fun j => u64n (rdX (zs, b) j)) ++ (rdS (zs, b) k).1 := by
 induction k with
 | zero => intro h; exact ⟨h, rfl⟩
 | succ k ih =>
   intro h
   have e1 : rdS (zs, b) (k + 1) = (rd1 (rdS (zs, b) k)).2 := rfl
   rw [e1] at h ⊢
   obtain ⟨z, d, e⟩ : ∃ z d, rdS (zs, b) k = (z, d) := ⟨_, _, rfl⟩
   have e2 : rdX (zs, b) k = (rd1 (z, d)).1 := by unfold rdX; rw [e]
   rw [e] at h ⊢ ih
   rcases PackMath.begins_or z with ⟨v, rest, hb⟩ | hb
   · rw [rd1_yes hb] at h e2 ⊢
     obtain ⟨i1, i2⟩ := ih h
     refine ⟨i1, ?_⟩
     rw [List.range_succ, List.map_append, bytesN_append, List.map_cons, List.map_nil, bytesN_one, e2, u64n_wrap hb.1, List.append_assoc, ← hb.2]
     exact i2
   · rw [rd1_no hb] at h; cases h
theorem rd_forth (ns : List Nat) (hs : ∀ v ∈ ns, v < 18446744073709551616) (r : List Int) : rdS (bytesN ns ++ r, false) ns.length = (r, false) ∧ ∀ j, j < ns.length → rdX (bytesN ns ++ r, false) j = IntKind.i64.wrap ((ns[j]?.getD 0 : Nat) : Int) := by
 induction ns with
 | nil => exact ⟨by show (([] : List Int) ++ r, false) = _; rw [List.nil_append], fun j hj => absurd hj (by simp)⟩
 | cons v ns ih =>
   have hb : PackMath.Begins (bytesN (v :: ns) ++ r) v (bytesN ns ++ r) := ⟨hs v (by simp), by rw [bytesN_cons, List.append_assoc]⟩
   have e1 : rdS (bytesN (v :: ns) ++ r, false) 1 = (bytesN ns ++ r, false) := by show (rd1 _).2 = _; rw [show rdS (bytesN (v :: ns) ++ r, false) 0 = (bytesN (v :: ns) ++ r, false) from rfl, rd1_yes hb]
   obtain ⟨i1, i2⟩ := ih fun u hu => hs u (by simp [hu])
   refine ⟨?_, fun j hj => ?_⟩
   · rw [List.length_cons, Nat.add_comm, ← rdS_add, e1]; exact i1
   · match j, hj with
     | 0, _ =>
       show (rd1 (bytesN (v :: ns) ++ r, false)).1 = _
       rw [rd1_yes hb]; rfl
     | j + 1, hj =>
       rw [Nat.add_comm j 1, ← rdX_add, e1, i2 j (by simp at hj; omega), Nat.add_comm 1 j, List.getElem?_cons_succ]
noncomputable def rdB (c : Cf) (s : List Int × Bool) : List Rw × (List Int × Bool) := match takeB c s.1 with
 | some (l, rest) => (l, (rest, s.2))
 | none => ([], ([], true))
theorem rdB_yes {c : Cf} {zs rest : List Int} {b : Bool} {l : List Rw} (h : takeB c zs = some (l, rest)) : rdB c (zs, b) = (l, (rest, b)) := by unfold rdB; rw [show (zs, b).1 = zs from rfl, h]
theorem rdB_no {c : Cf} {zs : List Int} {b : Bool} (h : takeB c zs = none) : rdB c (zs, b) = ([], ([], true)) := by unfold rdB; rw [show (zs, b).1 = zs from rfl, h]
end Go.Proofs.Ytnkgakhnlbifdaa
