/- The document's own, layer 16: the message whose bytes they are. No law is proved here. -/
import Derived.Test.YtfpadcfahfanoaaMg9
import Derived.Test.YtfpadcfahfanoaaMg28
import Derived.Test.YtfpadcfahfanoaaMg35
import Derived.Test.YtfpadcfahfanoaaRefPaintTake
import Derived.Test.YtfpadcfahfanoaaRefMailLoop
import Derived.Test.YtfpadcfahfanoaaMg36
import Derived.Test.YtfpadcfahfanoaaMg2
import Derived.BigRegion
namespace Go.Proofs.Ytfpadcfahfanoaa
open Go.RowKit

attribute [local go_sem ↓] run_fine
set_option maxRecDepth 100000 in
set_option maxHeartbeats 16000000 in
theorem refmtake_calls (c : Cf) (a : Option Addr) (n d : Nat) (zs : List Int) (w : World) (hB : Bytes w (.slice a n d) zs) (hn : n = zs.length) (hnd : n ≤ d) :
    Calls Try.prog 8 #[cfV c, .slice a n d] w (TookM w (takeM c zs)) := by
  have HW := Lib.hid ((Whole.made w 23 (cfCells c)).alloc (.cells (mlCells ml0 (.slice none 0 0) (.slice none 0 0)) 35))
  have HZ := Lib.hid (Whole.made2 w (.cells (cfCells c) 23) 35 (mlCells ml0 (.slice none 0 0) (.slice none 0 0)))
  have Hb0 := Lib.hid (below_two w (.cells (cfCells c) 23) (.cells (mlCells ml0 (.slice none 0 0) (.slice none 0 0)) 35))
  have HB := Lib.hid hB; clear hB
  have Hn := Lib.hid hn; clear hn
  obtain ⟨nn, q, r, p, kk, cc⟩ := c
  obtain ⟨res, Hres⟩ : ∃ z, Hid (takeM ⟨nn, q, r, p, kk, cc⟩ zs = z) := ⟨_, rfl⟩
  rw [Hres.out]
  go_enter Try.func8, Try.ntmps8
  go_wp2_with fail
  refine (refsome_calls a n d zs 3 (by decide) Hn.out hnd _ (HB.out.later Hb0.out)).mono ?_
  rintro e w1 (⟨hs, r1, A1, C1, B1, D1, hso, rfl, hNs, hBr, hD, hb⟩ | ⟨hso, rfl, hb⟩)
  rotate_left 1
  · obtain rfl : res = none := Hres.out.symm.trans (takeM_head hso)
    have HZ1 := Lib.hid (HZ.out.later hb HZ.out.lt)
    have Hb1 := Lib.hid (held_next Hb0.out hb)
    clear hb hso
    have HZc := (HZ1).out
    have hlt4 := HZc.lt
    have y0 := HZc.free 0
    have y1 := HZc.free 1
    have y2 := HZc.free 2
    have y3 := HZc.free 3
    have y4 := HZc.free 4
    have y5 := HZc.free 5
    have y6 := HZc.free 6
    have y7 := HZc.free 7
    have y8 := HZc.free 8
    have y9 := HZc.free 9
    have y10 := HZc.free 10
    obtain ⟨⟨M0, M1, M2, M3⟩, ⟨M4, M5, M6, M7⟩, M8, M9, M10⟩ := ml_cells' HZc
    simp only at M0 M1 M2 M3 M4 M5 M6 M7 M8 M9 M10
    have HZn := Lib.hid (ml11_whole (x := ml0) (rv := .slice none 0 0) (ev := .slice none 0 0) HZc)
    clear HZc
    go_wp2_with fail
    obtain ⟨⟨Z0, Z1, Z2, Z3⟩, ⟨Z4, Z5, Z6, Z7⟩, Z8, Z9, Z10⟩ := ml_cells' HZn.out
    simp only [ml11] at Z0 Z1 Z2 Z3 Z4 Z5 Z6 Z7 Z8 Z9 Z10
    refine bodyPost_ret (v := .tuple #[mlV ml0 (.slice none 0 0) (.slice none 0 0), .bool false]) (by simp [results, Try.results8, go_sem, Z0, Z1, Z2, Z3, Z4, Z5, Z6, Z7, Z8, Z9, Z10]) rfl ⟨none, 0, 0, none, 0, 0, rfl, mail_none _, ml11_below (g := w.heap.size + 1) (x := ml0) (rv := .slice none 0 0) (ev := .slice none 0 0) Hb1.out (by omega)⟩
  have HZ1 := Lib.hid (HZ.out.later hb HZ.out.lt)
  have HW1 := Lib.hid (HW.out.later hb HW.out.lt)
  have Hb1 := Lib.hid (held_next Hb0.out hb)
  have Hso := Lib.hid hso
  have HNs := Lib.hid hNs
  have HBr := Lib.hid hBr
  clear hb hso hNs hBr
  obtain ⟨d0, d1, d2, d3, d4, d5⟩ := config_cells HW1.out
  simp only at d0 d1 d2 d3 d4 d5
  go_wp2_with fail
  refine (refptake_far ⟨nn, q, r, p, kk, cc⟩ B1 r1.length D1 r1 _ HBr.out rfl hD).mono ?_
  rintro e w2 (⟨rows, r2, A2, C2, B2, D2, htb, rfl, hBk, hBr2, hD2, hb⟩ | ⟨htb, rfl, hb⟩)
  rotate_left 1
  · obtain rfl : res = none := Hres.out.symm.trans (takeM_books Hso.out htb)
    have HZ2 := Lib.hid (HZ1.out.later hb HZ1.out.lt)
    have Hb2 := Lib.hid (held_next Hb1.out hb)
    clear hb htb d0 d1 d2 d3 d4 d5
    have HZc := (HZ2).out
    have hlt4 := HZc.lt
    have y0 := HZc.free 0
    have y1 := HZc.free 1
    have y2 := HZc.free 2
    have y3 := HZc.free 3
    have y4 := HZc.free 4
    have y5 := HZc.free 5
    have y6 := HZc.free 6
    have y7 := HZc.free 7
    have y8 := HZc.free 8
    have y9 := HZc.free 9
    have y10 := HZc.free 10
    obtain ⟨⟨M0, M1, M2, M3⟩, ⟨M4, M5, M6, M7⟩, M8, M9, M10⟩ := ml_cells' HZc
    simp only at M0 M1 M2 M3 M4 M5 M6 M7 M8 M9 M10
    have HZn := Lib.hid (ml11_whole (x := ml0) (rv := .slice none 0 0) (ev := .slice none 0 0) HZc)
    clear HZc
    go_wp2_with fail
    obtain ⟨⟨Z0, Z1, Z2, Z3⟩, ⟨Z4, Z5, Z6, Z7⟩, Z8, Z9, Z10⟩ := ml_cells' HZn.out
    simp only [ml11] at Z0 Z1 Z2 Z3 Z4 Z5 Z6 Z7 Z8 Z9 Z10
    refine bodyPost_ret (v := .tuple #[mlV ml0 (.slice none 0 0) (.slice none 0 0), .bool false]) (by simp [results, Try.results8, go_sem, Z0, Z1, Z2, Z3, Z4, Z5, Z6, Z7, Z8, Z9, Z10]) rfl ⟨none, 0, 0, none, 0, 0, rfl, mail_none _, ml11_below (g := w.heap.size + 1) (x := ml0) (rv := .slice none 0 0) (ev := .slice none 0 0) Hb2.out (by omega)⟩
  have hro := (takeB_some htb).1
  obtain ⟨N, hN⟩ : ∃ N : Nat, nn = (N : Int) := ⟨nn.toNat, by have h : 1 ≤ nn := hro.1.1; omega⟩
  subst hN
  have h16 : N ≤ 16 := by have h : (N : Int) ≤ 16 := hro.1.2.1; omega
  have HZ2 := Lib.hid (HZ1.out.later hb HZ1.out.lt)
  have HW2 := Lib.hid (HW1.out.later hb HW1.out.lt)
  have Hb2 := Lib.hid (held_next Hb1.out hb)
  have Hb12 := Lib.hid hb
  have Htb := Lib.hid htb
  have HBk := Lib.hid hBk
  have HBr2 := Lib.hid hBr2
  have HNs2 := Lib.hid (HNs.out.later hb)
  have Hsz1 : Hid (w.heap.size + 1 < w1.heap.size) := HZ1.out.lt
  clear hb htb hBk hBr2 hro d0 d1 d2 d3 d4 d5
  obtain ⟨M, HM⟩ : ∃ M, Hid (6 + 2 * N = M) := ⟨_, rfl⟩
  have hM22 : M ≤ 38 := by rw [← HM.out]; omega
  have e1 : IntKind.i64.wrap (2 * (N : Int)) = 2 * (N : Int) := IntWalk.i64_in _ (by omega)
  have e2 : IntKind.i64.wrap (6 + 2 * (N : Int)) = (M : Int) := by rw [IntWalk.i64_in _ (by omega)]; have := HM.out; omega
  obtain ⟨d0, d1, d2, d3, d4, d5⟩ := config_cells HW2.out
  simp only at d0 d1 d2 d3 d4 d5
  go_wp2_with fail
  refine (refsome_calls B2 r2.length D2 r2 M (by omega) rfl hD2 _ HBr2.out).mono ?_
  rintro e w3 (⟨ts, r3, A3, C3, B3, D3, hst, rfl, hNt, hBr3, hD3, hb⟩ | ⟨hst, rfl, hb⟩)
  rotate_left 1
  · obtain rfl : res = none := Hres.out.symm.trans (takeM_tail rfl Hso.out Htb.out (by rw [HM.out]; exact hst))
    have HZ3 := Lib.hid (HZ2.out.later hb HZ2.out.lt)
    have Hb3 := Lib.hid (held_next Hb2.out hb)
    clear hb hst d0 d1 d2 d3 d4 d5
    have HZc := (HZ3).out
    have hlt4 := HZc.lt
    have y0 := HZc.free 0
    have y1 := HZc.free 1
    have y2 := HZc.free 2
    have y3 := HZc.free 3
    have y4 := HZc.free 4
    have y5 := HZc.free 5
    have y6 := HZc.free 6
    have y7 := HZc.free 7
    have y8 := HZc.free 8
    have y9 := HZc.free 9
    have y10 := HZc.free 10
    obtain ⟨⟨M0, M1, M2, M3⟩, ⟨M4, M5, M6, M7⟩, M8, M9, M10⟩ := ml_cells' HZc
    simp only at M0 M1 M2 M3 M4 M5 M6 M7 M8 M9 M10
    have HZn := Lib.hid (ml11_whole (x := ml0) (rv := .slice none 0 0) (ev := .slice none 0 0) HZc)
    clear HZc
    go_wp2_with fail
    obtain ⟨⟨Z0, Z1, Z2, Z3⟩, ⟨Z4, Z5, Z6, Z7⟩, Z8, Z9, Z10⟩ := ml_cells' HZn.out
    simp only [ml11] at Z0 Z1 Z2 Z3 Z4 Z5 Z6 Z7 Z8 Z9 Z10
    refine bodyPost_ret (v := .tuple #[mlV ml0 (.slice none 0 0) (.slice none 0 0), .bool false]) (by simp [results, Try.results8, go_sem, Z0, Z1, Z2, Z3, Z4, Z5, Z6, Z7, Z8, Z9, Z10]) rfl ⟨none, 0, 0, none, 0, 0, rfl, mail_none _, ml11_below (g := w.heap.size + 1) (x := ml0) (rv := .slice none 0 0) (ev := .slice none 0 0) Hb3.out (by omega)⟩
  have HZ3 := Lib.hid (HZ2.out.later hb HZ2.out.lt)
  have HW3 := Lib.hid (HW2.out.later hb HW2.out.lt)
  have Hb3 := Lib.hid (held_next Hb2.out hb)
  have Hst : Hid (someN (6 + 2 * N) r2 = some (ts, r3)) := by show _ = _; rw [HM.out]; exact hst
  have HBk3 := Lib.hid (HBk.out.later hb)
  have HNs3 := Lib.hid (HNs2.out.later hb)
  have HNt := Lib.hid hNt
  have hbig3 : r3.length ≤ 9223372036854775807 := hBr3.1
  clear hb hst hNt hBr3 d0 d1 d2 d3 d4 d5
  by_cases h0 : 0 < r3.length
  · obtain rfl : res = none := Hres.out.symm.trans (takeM_more rfl Hso.out Htb.out Hst.out h0)
    have g1 : (0 : Int) < (r3.length : Int) := by omega
    have HZc := (HZ3).out
    have hlt4 := HZc.lt
    have y0 := HZc.free 0
    have y1 := HZc.free 1
    have y2 := HZc.free 2
    have y3 := HZc.free 3
    have y4 := HZc.free 4
    have y5 := HZc.free 5
    have y6 := HZc.free 6
    have y7 := HZc.free 7
    have y8 := HZc.free 8
    have y9 := HZc.free 9
    have y10 := HZc.free 10
    obtain ⟨⟨M0, M1, M2, M3⟩, ⟨M4, M5, M6, M7⟩, M8, M9, M10⟩ := ml_cells' HZc
    simp only at M0 M1 M2 M3 M4 M5 M6 M7 M8 M9 M10
    have HZn := Lib.hid (ml11_whole (x := ml0) (rv := .slice none 0 0) (ev := .slice none 0 0) HZc)
    clear HZc
    go_wp2_with fail
    obtain ⟨⟨Z0, Z1, Z2, Z3⟩, ⟨Z4, Z5, Z6, Z7⟩, Z8, Z9, Z10⟩ := ml_cells' HZn.out
    simp only [ml11] at Z0 Z1 Z2 Z3 Z4 Z5 Z6 Z7 Z8 Z9 Z10
    refine bodyPost_ret (v := .tuple #[mlV ml0 (.slice none 0 0) (.slice none 0 0), .bool false]) (by simp [results, Try.results8, go_sem, Z0, Z1, Z2, Z3, Z4, Z5, Z6, Z7, Z8, Z9, Z10]) rfl ⟨none, 0, 0, none, 0, 0, rfl, mail_none _, ml11_below (g := w.heap.size + 1) (x := ml0) (rv := .slice none 0 0) (ev := .slice none 0 0) Hb3.out (by omega)⟩
  have g1 : ¬ (0 : Int) < (r3.length : Int) := by omega
  have Hend := Lib.hid (Hres.out.symm.trans (takeM_end rfl Hso.out Htb.out Hst.out h0))
  have h3 : hs.length = 3 := (someN_some Hso.out).1
  have hM : ts.length = M := by rw [← HM.out]; exact (someN_some Hst.out).1
  rw [h3, hM]
  rw [h3] at HNs3
  rw [hM] at HNt
  have hAt : ∀ i, i < 3 → ∃ b off, A1 = some ⟨b, off, none⟩ ∧ b < w3.heap.size ∧ w3.cell? ⟨b, off + i, none⟩ = some (.int .i64 (((hs[i]?.getD 0 : Nat) : Int))) := fun i hi => by
    obtain ⟨b, off, e1, e2, e3⟩ := HNs3.out.at (i := i) (by rw [List.length_map, h3]; exact hi)
    refine ⟨b, off, e1, e2, e3.trans ?_⟩
    rw [List.getElem?_map]
    cases hs[i]? <;> rfl
  have hBt : ∀ i, i < M → ∃ b off, A3 = some ⟨b, off, none⟩ ∧ b < w3.heap.size ∧ w3.cell? ⟨b, off + i, none⟩ = some (.int .i64 (((ts[i]?.getD 0 : Nat) : Int))) := fun i hi => by
    obtain ⟨b, off, e1, e2, e3⟩ := HNt.out.at (i := i) (by rw [List.length_map, hM]; exact hi)
    refine ⟨b, off, e1, e2, e3.trans ?_⟩
    rw [List.getElem?_map]
    cases ts[i]? <;> rfl
  have HBt := Lib.hid hBt
  obtain ⟨b1, o1, rfl, hb1lt, c0⟩ := hAt 0 (by omega)
  obtain ⟨_, _, e11, _, c1⟩ := hAt 1 (by omega)
  obtain ⟨_, _, e12, _, c2⟩ := hAt 2 (by omega)
  simp only [Option.some.injEq, Addr.mk.injEq, and_true] at e11 e12
  obtain ⟨rfl, rfl⟩ := e11
  obtain ⟨rfl, rfl⟩ := e12
  have hM6 : 6 ≤ M := by rw [← HM.out]; omega
  obtain ⟨b3, o3, rfl, hb3lt, t0⟩ := hBt 0 (by omega)
  obtain ⟨_, _, e31, _, t1⟩ := hBt 1 (by omega)
  simp only [Option.some.injEq, Addr.mk.injEq, and_true] at e31
  obtain ⟨rfl, rfl⟩ := e31
  obtain ⟨_, _, e32, _, t2⟩ := hBt 2 (by omega)
  simp only [Option.some.injEq, Addr.mk.injEq, and_true] at e32
  obtain ⟨rfl, rfl⟩ := e32
  obtain ⟨_, _, e33, _, t3⟩ := hBt 3 (by omega)
  simp only [Option.some.injEq, Addr.mk.injEq, and_true] at e33
  obtain ⟨rfl, rfl⟩ := e33
  obtain ⟨_, _, e34, _, t4⟩ := hBt 4 (by omega)
  simp only [Option.some.injEq, Addr.mk.injEq, and_true] at e34
  obtain ⟨rfl, rfl⟩ := e34
  obtain ⟨_, _, e35, _, t5⟩ := hBt 5 (by omega)
  simp only [Option.some.injEq, Addr.mk.injEq, and_true] at e35
  obtain ⟨rfl, rfl⟩ := e35
  obtain ⟨E, HE⟩ : ∃ z : List (Int × Int), Hid ((List.range N).map (fun i => (((ts[6 + 2 * i]?.getD 0 : Nat) : Int), ((ts[6 + 1 + 2 * i]?.getD 0 : Nat) : Int))) = z) := ⟨_, Lib.hid rfl⟩
  have hmk : mkM N hs rows ts = ⟨((hs[0]?.getD 0 : Nat) : Int), ((hs[1]?.getD 0 : Nat) : Int), ((hs[2]?.getD 0 : Nat) : Int), rows, ((ts[0]?.getD 0 : Nat) : Int), ((ts[1]?.getD 0 : Nat) : Int), ((ts[2]?.getD 0 : Nat) : Int), ((ts[3]?.getD 0 : Nat) : Int), ((ts[4]?.getD 0 : Nat) : Int), ((ts[5]?.getD 0 : Nat) : Int), E⟩ := by rw [← HE.out]; rfl
  have hEl : E.length = N := by rw [← HE.out, List.length_map, List.length_range]
  have hEa : ∀ i, i < N → lkAt E i = (((ts[6 + 2 * i]?.getD 0 : Nat) : Int), ((ts[6 + 1 + 2 * i]?.getD 0 : Nat) : Int)) := fun i hi => by
    rw [← HE.out]; unfold lkAt; rw [List.getElem?_map, List.getElem?_range hi]; rfl
  have HEa := Lib.hid hEa; have HEl := Lib.hid hEl
  clear hEa hEl hAt hBt
  obtain ⟨f0, Hf0⟩ : ∃ z : Int, Hid (((hs[0]?.getD 0 : Nat) : Int) = z) := ⟨_, Lib.hid rfl⟩
  rw [Hf0.out] at c0 hmk
  obtain ⟨f1, Hf1⟩ : ∃ z : Int, Hid (((hs[1]?.getD 0 : Nat) : Int) = z) := ⟨_, Lib.hid rfl⟩
  rw [Hf1.out] at c1 hmk
  obtain ⟨f2, Hf2⟩ : ∃ z : Int, Hid (((hs[2]?.getD 0 : Nat) : Int) = z) := ⟨_, Lib.hid rfl⟩
  rw [Hf2.out] at c2 hmk
  obtain ⟨g0, Hg0⟩ : ∃ z : Int, Hid (((ts[0]?.getD 0 : Nat) : Int) = z) := ⟨_, Lib.hid rfl⟩
  rw [Hg0.out] at t0 hmk
  obtain ⟨g1', Hg1⟩ : ∃ z : Int, Hid (((ts[1]?.getD 0 : Nat) : Int) = z) := ⟨_, Lib.hid rfl⟩
  rw [Hg1.out] at t1 hmk
  obtain ⟨g2, Hg2⟩ : ∃ z : Int, Hid (((ts[2]?.getD 0 : Nat) : Int) = z) := ⟨_, Lib.hid rfl⟩
  rw [Hg2.out] at t2 hmk
  obtain ⟨g3, Hg3⟩ : ∃ z : Int, Hid (((ts[3]?.getD 0 : Nat) : Int) = z) := ⟨_, Lib.hid rfl⟩
  rw [Hg3.out] at t3 hmk
  obtain ⟨g4, Hg4⟩ : ∃ z : Int, Hid (((ts[4]?.getD 0 : Nat) : Int) = z) := ⟨_, Lib.hid rfl⟩
  rw [Hg4.out] at t4 hmk
  obtain ⟨g5, Hg5⟩ : ∃ z : Int, Hid (((ts[5]?.getD 0 : Nat) : Int) = z) := ⟨_, Lib.hid rfl⟩
  rw [Hg5.out] at t5 hmk
  have HMk := Lib.hid hmk; clear hmk h3 hM
  rw [HMk.out] at Hend
  obtain ⟨d0, d1, d2, d3, d4, d5⟩ := config_cells HW3.out
  simp only at d0 d1 d2 d3 d4 d5
  simp only [Nat.add_zero] at c0 t0
  go_wp2_with fail
  go_region
  go_wp2_with fail
  go_region
  go_wp2_with fail
  go_region
  clear c0 c1 c2 t0 t1 t2 t3 t4 t5 d0 d1 d2 d3 d4 d5
  have HBt2 : Hid (∀ i, i < M → w3.cell? ⟨b3, o3 + i, none⟩ = some (.int .i64 (((ts[i]?.getD 0 : Nat) : Int)))) := fun i hi => by
    obtain ⟨_, _, e, _, h⟩ := HBt.out i hi
    cases e
    exact h
  clear HBt
  go_wp2_with fail
  refine mtake_loop N M q r p kk cc f0 f1 f2 g0 g1' g2 g3 g4 g5 rows (.slice A2 rows.length C2) (.slice none 0 0) E ts b3 o3 C3 w.heap.size w3 _ h16 HM HW3 HBt2 HEa _ _ _ _ _ _ _ _ _ _ _ _ _ _ _ _ _ _ _ _ _ _ _ _ _ _ _ _ _ _ _ _ _ _ _ _ _ _ _ _ _ _ _ _ _ _ _ _ _ _ _ _ _ _ _ _ _ _ _ _ _ _ _ _ _ _ _ _ _ _ _ _ _ _ _ _ _ _ _ _ _ _ _ _ _ _ _ _ _ _ _ _ _ _ _ _ _ _ _ _ _ _ _ _ _ _ _ _ _ _ _ _ ?hexit ((below_box w3 _).drew.drew.drew) ((Whole.made w3 _ _).drew.drew.drew) (World.ownsRow_nil _ _ _ _)
  case hexit =>
    clear HEa HBt2
    intro wr sv v85 v86 v87 v88 v89 v90 v91 v92 v93 v94 v95 v96 v97 v98 v99 v100 v101 v102 v103 v104 v105 v106 v107 v108 Hbr HXr HO
    have HWr := Lib.hid (HW3.out.later Hbr.out HW3.out.lt)
    obtain ⟨d0, d1, d2, d3, d4, d5⟩ := config_cells HWr.out
    obtain ⟨⟨M0, M1, M2, M3⟩, ⟨M4, M5, M6, M7⟩, M8, M9, M10⟩ := ml_cells' HXr.out
    simp only at d0 d1 d2 d3 d4 d5 M0 M1 M2 M3 M4 M5 M6 M7 M8 M9 M10
    obtain ⟨A9, C9, hsv, _, hLk⟩ := elems_of_own HO.out (by omega)
    subst hsv
    have hLooks : Looks wr (.slice A9 N C9) E := by unfold Looks; rw [HEl.out]; exact hLk
    have HLk := Lib.hid hLooks
    have HOf := Lib.hid (own_off HO.out)
    have hMI : MailIn wr (A2) rows.length C2 A9 N C9 ⟨f0, f1, f2, rows, g0, g1', g2, g3, g4, g5, E⟩ := ⟨rfl, (HBk3.out.later Hbr.out).1, HEl.out.symm, hLooks⟩
    have HMI := Lib.hid hMI
    clear hLk hLooks hMI
    obtain ⟨mb, Hmb⟩ : ∃ z, Hid (mailB ⟨(N : Int), q, r, p, kk, cc⟩ ⟨f0, f1, f2, rows, g0, g1', g2, g3, g4, g5, E⟩ = z) := ⟨_, Lib.hid rfl⟩
    have Hcall := Lib.hid (refmaymail_calls ⟨(N : Int), q, r, p, kk, cc⟩ ⟨f0, f1, f2, rows, g0, g1', g2, g3, g4, g5, E⟩ A2 rows.length C2 A9 N C9 wr HMI.out)
    go_wp2_with fail
    refine Hcall.out.mono ?_
    rw [Hmb.out]
    rintro e w7 ⟨rfl, hb⟩
    have HZ7 := Lib.hid (HZ3.out.later (held_next Hbr.out hb) HZ3.out.lt)
    have Hb7 := Lib.hid (held_next Hb3.out (held_next Hbr.out hb))
    have HX7 := Lib.hid (HXr.out.later hb HXr.out.lt)
    have HB7 := Lib.hid (HBk3.out.later (held_next Hbr.out hb))
    have HL7 := Lib.hid (HLk.out.later hb)
    clear hb d0 d1 d2 d3 d4 d5 M0 M1 M2 M3 M4 M5 M6 M7 M8 M9 M10 Hcall
    cases mb with
    | false =>
      obtain rfl : res = none := Hend.out.trans (if_neg fun h => by
        have h1 := decide_eq_true h
        rw [show decide (mailOk ⟨(N : Int), q, r, p, kk, cc⟩ ⟨f0, f1, f2, rows, g0, g1', g2, g3, g4, g5, E⟩) = false from Hmb.out] at h1
        cases h1)
      have HZc := (HZ7).out
      have hlt4 := HZc.lt
      have y0 := HZc.free 0
      have y1 := HZc.free 1
      have y2 := HZc.free 2
      have y3 := HZc.free 3
      have y4 := HZc.free 4
      have y5 := HZc.free 5
      have y6 := HZc.free 6
      have y7 := HZc.free 7
      have y8 := HZc.free 8
      have y9 := HZc.free 9
      have y10 := HZc.free 10
      obtain ⟨⟨M0, M1, M2, M3⟩, ⟨M4, M5, M6, M7⟩, M8, M9, M10⟩ := ml_cells' HZc
      simp only at M0 M1 M2 M3 M4 M5 M6 M7 M8 M9 M10
      have HZn := Lib.hid (ml11_whole (x := ml0) (rv := .slice none 0 0) (ev := .slice none 0 0) HZc)
      clear HZc
      go_wp2_with fail
      obtain ⟨⟨Z0, Z1, Z2, Z3⟩, ⟨Z4, Z5, Z6, Z7⟩, Z8, Z9, Z10⟩ := ml_cells' HZn.out
      simp only [ml11] at Z0 Z1 Z2 Z3 Z4 Z5 Z6 Z7 Z8 Z9 Z10
      refine bodyPost_ret (v := .tuple #[mlV ml0 (.slice none 0 0) (.slice none 0 0), .bool false]) (by simp [results, Try.results8, go_sem, Z0, Z1, Z2, Z3, Z4, Z5, Z6, Z7, Z8, Z9, Z10]) rfl ⟨none, 0, 0, none, 0, 0, rfl, mail_none _, ml11_below (g := w.heap.size + 1) (x := ml0) (rv := .slice none 0 0) (ev := .slice none 0 0) Hb7.out (by omega)⟩
    | true =>
      obtain rfl : res = some ⟨f0, f1, f2, rows, g0, g1', g2, g3, g4, g5, E⟩ := Hend.out.trans (if_pos (of_decide_eq_true Hmb.out))
      have HZc := HZ7.out
      have hlt4 := HZc.lt
      have y0 := HZc.free 0
      have y1 := HZc.free 1
      have y2 := HZc.free 2
      have y3 := HZc.free 3
      have y4 := HZc.free 4
      have y5 := HZc.free 5
      have y6 := HZc.free 6
      have y7 := HZc.free 7
      have y8 := HZc.free 8
      have y9 := HZc.free 9
      have y10 := HZc.free 10
      obtain ⟨⟨M0, M1, M2, M3⟩, ⟨M4, M5, M6, M7⟩, M8, M9, M10⟩ := ml_cells' HZc
      obtain ⟨⟨X0, X1, X2, X3⟩, ⟨X4, X5, X6, X7⟩, X8, X9, X10⟩ := ml_cells' HX7.out
      simp only at M0 M1 M2 M3 M4 M5 M6 M7 M8 M9 M10 X0 X1 X2 X3 X4 X5 X6 X7 X8 X9 X10
      have HZn := Lib.hid (ml11_whole (x := ⟨f0, f1, f2, rows, g0, g1', g2, g3, g4, g5, E⟩) (rv := .slice A2 rows.length C2) (ev := .slice A9 N C9) HZc)
      clear HZc
      go_wp2_with fail
      obtain ⟨⟨Z0, Z1, Z2, Z3⟩, ⟨Z4, Z5, Z6, Z7⟩, Z8, Z9, Z10⟩ := ml_cells' HZn.out
      simp only [ml11] at Z0 Z1 Z2 Z3 Z4 Z5 Z6 Z7 Z8 Z9 Z10
      have hgl : w.heap.size + 1 < w1.heap.size := Hsz1.out
      have hgl3 : w.heap.size + 1 < w3.heap.size := HZ3.out.lt
      have hEl7 : Elems w7 (.slice A9 N C9) 2 N (fun i j => lkc (lkAt E i) j) := by have h := HL7.out; unfold Looks at h; rw [HEl.out] at h; exact h
      have hoffL : ∀ ad, A9 = some ad → ad.block ≠ w.heap.size + 1 := fun ad had => by have := HOf.out ad had; omega
      have hLf : Looks (ml11 w7 (w.heap.size + 1) ⟨f0, f1, f2, rows, g0, g1', g2, g3, g4, g5, E⟩ (.slice A2 rows.length C2) (.slice A9 N C9)) (.slice A9 N C9) E := by
        unfold Looks; rw [HEl.out]; exact ml11_elems hEl7 hoffL
      have hfar := (ml11_far (x := ⟨f0, f1, f2, rows, g0, g1', g2, g3, g4, g5, E⟩) (rv := .slice A2 rows.length C2) (ev := .slice A9 N C9) HB7.out hgl).1
      have hbel := ml11_below (g := w.heap.size + 1) (x := ⟨f0, f1, f2, rows, g0, g1', g2, g3, g4, g5, E⟩) (rv := .slice A2 rows.length C2) (ev := .slice A9 N C9) Hb7.out (by omega)
      have hfin : MailIn (ml11 w7 (w.heap.size + 1) ⟨f0, f1, f2, rows, g0, g1', g2, g3, g4, g5, E⟩ (.slice A2 rows.length C2) (.slice A9 N C9)) A2 rows.length C2 A9 N C9 ⟨f0, f1, f2, rows, g0, g1', g2, g3, g4, g5, E⟩ := ⟨rfl, hfar, HEl.out.symm, hLf⟩
      have Hbel := Lib.hid hbel; have Hfin := Lib.hid hfin
      clear hbel hfin hfar hLf hEl7 hoffL
      refine bodyPost_ret (v := .tuple #[mlV ⟨f0, f1, f2, rows, g0, g1', g2, g3, g4, g5, E⟩ (.slice A2 rows.length C2) (.slice A9 N C9), .bool true]) (by simp [results, Try.results8, go_sem, Z0, Z1, Z2, Z3, Z4, Z5, Z6, Z7, Z8, Z9, Z10]) rfl ⟨A2, rows.length, C2, A9, N, C9, rfl, Hfin.out, Hbel.out⟩
end Go.Proofs.Ytfpadcfahfanoaa
