/- TapeDo, walked. No law is proved here. -/
import Derived.Test.YtokdppjpgeaiiaaTapeAwake
import Derived.Test.YtokdppjpgeaiiaaEachTape
import Derived.Test.YtokdppjpgeaiiaaRefTapeMay
import Derived.Test.YtokdppjpgeaiiaaRefTapeCut
import Derived.Test.YtokdppjpgeaiiaaRefTapeSync
import Derived.Test.YtokdppjpgeaiiaaRefTapeSmall
import Derived.Test.YtokdppjpgeaiiaaRefTapeWrite
import Derived.Deep.RegionHeld3
import Derived.Deep.DeepCutAuto
namespace Go.Proofs.Ytokdppjpgeaiiaa
open Go.RowKit
attribute [local go_sem ↓] run_fine

set_option maxRecDepth 100000 in
set_option maxHeartbeats 16000000 in
theorem tapedo_law (x : TpS) (t : Tp) (sp : Bool) (sb : Sl) (zb : List Int) (n : Int) (w : World) (h : TB w x t) (hSB : SB w sb zb) :
    Calls Try.prog 3 #[tpV x, .bool sp, slV sb, .int .i64 n] w (Says w true) := by
  obtain ⟨⟨⟨ax1, nx1, cx1⟩, ⟨ax2, nx2, cx2⟩⟩, ⟨⟨ax3, nx3, cx3⟩, ⟨ax4, nx4, cx4⟩⟩⟩ := x
  obtain ⟨ab, nb, cb⟩ := sb
  have HT := Lib.hid h; clear h
  have HSB := Lib.hid hSB; clear hSB
  have HX0 := Lib.hid (Whole.made w 26 #[.slice ax1 nx1 cx1, .slice ax2 nx2 cx2, .slice ax3 nx3 cx3, .slice ax4 nx4 cx4])
  have Hb0 := Lib.hid (below_box w (.cells #[.slice ax1 nx1 cx1, .slice ax2 nx2 cx2, .slice ax3 nx3 cx3, .slice ax4 nx4 cx4] 26))
  show Calls Try.prog 3 #[.agg #[.slice ax1 nx1 cx1, .slice ax2 nx2 cx2, .slice ax3 nx3 cx3, .slice ax4 nx4 cx4], .bool sp, .slice ab nb cb, .int .i64 n] w _
  go_enter Try.func3, Try.ntmps3
  go_wp2_with fail
  refine (awake7 _).mono ?_
  rintro e w1 ⟨rfl, hb⟩
  have Hb1 := Lib.hid (held_next Hb0.out hb)
  have HX1 := Lib.hid (HX0.out.later hb HX0.out.lt)
  clear hb
  have z0 := HX1.out.cell 0
  have z1 := HX1.out.cell 1
  have z2 := HX1.out.cell 2
  have z3 := HX1.out.cell 3
  go_wp2_with fail
  refine (reftshort_calls ⟨⟨⟨ax1, nx1, cx1⟩, ⟨ax2, nx2, cx2⟩⟩, ⟨⟨ax3, nx3, cx3⟩, ⟨ax4, nx4, cx4⟩⟩⟩ t w1 (HT.out.later Hb1.out)).mono ?_
  obtain ⟨sh, Hsh⟩ : ∃ z, Hid (shortT t = z) := ⟨_, rfl⟩
  rw [Hsh.out]
  rintro e w2 ⟨rfl, hb⟩
  have Hb2 := Lib.hid (held_next Hb1.out hb)
  have HX2 := Lib.hid (HX1.out.later hb HX1.out.lt)
  have HT2 := Lib.hid (HT.out.later Hb2.out)
  clear hb z0 z1 z2 z3
  cases sh with
  | false =>
    go_wp2_with fail
    go_ret
    exact ⟨by rfl, Hb2.out⟩
  | true =>
  by_cases hnb : 70000 < nb
  · go_wp2_with fail
    go_ret
    exact ⟨by rfl, Hb2.out⟩
  have hfit := shortT_fits Hsh.out
  have hlb : zb.length ≤ 70000 := by have := HSB.out.1; simp only at this; omega
  have Hlb := Lib.hid hlb; clear hlb
  go_wp2_with fail
  refine wp_region_each_at ?hm ?hb (fun a0 d a' w' => ∃ (e0 e1 e2 e3 e4 e5 e6 e7 e8 e9 e10 e11 e12 e13 e14 : Value) (gb : Nat), a' = putAll a0 [(24, e0), (25, e1), (26, e2), (27, e3), (28, e4), (29, e5), (30, e6), (31, e7), (32, e8), (33, e9), (34, e10), (35, e11), (36, e12), (37, e13), (9, e14)] ∧ Below w2.heap.size w2 w' ∧ (d 0 = true → ∃ g, e0 = .slice (some ⟨g, 0, none⟩) 0 0) ∧ (d 1 = true → e1 = .pointer (some ⟨w.heap.size, 0, none⟩)) ∧ (d 2 = true → e2 = .pointer (some ⟨w.heap.size, 0, none⟩)) ∧ (d 3 = true → e3 = .slice ax1 nx1 cx1) ∧ (d 4 = true → RSo w' (d 14) gb e4 t.m.s) ∧ (d 5 = true → ∃ g, e5 = .slice (some ⟨g, 0, none⟩) 0 0) ∧ (d 6 = true → e6 = .pointer (some ⟨w.heap.size, 0, none⟩)) ∧ (d 7 = true → e7 = .pointer (some ⟨w.heap.size, 1, none⟩)) ∧ (d 8 = true → e8 = .slice ax2 nx2 cx2) ∧ (d 9 = true → RSo w' (d 14) gb e9 t.m.l) ∧ (d 10 = true → RAo w' (d 14) gb e10 t.m) ∧ (d 11 = true → e11 = .pointer (some ⟨w.heap.size, 2, none⟩)) ∧ (d 12 = true → e12 = .agg #[.slice ax3 nx3 cx3, .slice ax4 nx4 cx4]) ∧ (d 13 = true → RTo w' (d 14) gb e13 t) ∧ (d 14 = true → BoxO w' w2.heap.size (d 14) (d 15) gb e14 t) ∧ (d 15 = true → True) ∧ (d 15 = true → d 14 = true)) ?h0 ?step ?ends
  case hm => kernel_rfl
  case hb => kernel_rfl
  case h0 =>
    refine ⟨undef, undef, undef, undef, undef, undef, undef, undef, undef, undef, undef, undef, undef, undef, undef, 0, ?_, (Below.refl _ _).drew, fun h => absurd h (by decide), fun h => absurd h (by decide), fun h => absurd h (by decide), fun h => absurd h (by decide), fun h => absurd h (by decide), fun h => absurd h (by decide), fun h => absurd h (by decide), fun h => absurd h (by decide), fun h => absurd h (by decide), fun h => absurd h (by decide), fun h => absurd h (by decide), fun h => absurd h (by decide), fun h => absurd h (by decide), fun h => absurd h (by decide), fun h => absurd h (by decide), fun h => absurd h (by decide), fun h => absurd h (by decide)⟩
    simp only [putAll, Act.put, List.setIfInBounds_toArray, List.set_cons_zero, List.set_cons_succ]
  case step =>
    intro i d a' w' hi hJ hd hk
    obtain ⟨e0, e1, e2, e3, e4, e5, e6, e7, e8, e9, e10, e11, e12, e13, e14, gb, rfl, hB, c0, c1, c2, c3, c4, c5, c6, c7, c8, c9, c10, c11, c12, c13, c14, c15, k15⟩ := hJ
    match i, hi, hd, hk with
    | 0, _, hd, hk =>
      have hb := below_box w' (.cells #[] 5)
      apply wpOp_at
      case ho => rfl
      intro K hK
      simp only [putAll, Act.put, List.setIfInBounds_toArray, List.set_cons_zero, List.set_cons_succ]
      go_simp
      refine hK _ _ ⟨.slice (some ⟨w'.heap.size, 0, none⟩) 0 0, e1, e2, e3, e4, e5, e6, e7, e8, e9, e10, e11, e12, e13, e14, gb, ?_, hB.trans (hb.mono hB.size), fun _ => ⟨_, rfl⟩, c1, c2, c3, fun h => (c4 h).later hb, c5, c6, c7, c8, fun h => (c9 h).later hb, fun h => (c10 h).later hb, c11, c12, fun h => (c13 h).later hb, fun h => (c14 h).later hb, c15, k15⟩
      simp only [putAll, Act.put, List.setIfInBounds_toArray, List.set_cons_zero, List.set_cons_succ]
    | 1, _, hd, hk =>
      apply wpOp_at
      case ho => rfl
      intro K hK
      simp only [putAll, Act.put, List.setIfInBounds_toArray, List.set_cons_zero, List.set_cons_succ]
      go_simp
      refine hK _ _ ⟨e0, .pointer (some ⟨w.heap.size, 0, none⟩), e2, e3, e4, e5, e6, e7, e8, e9, e10, e11, e12, e13, e14, gb, ?_, hB, c0, fun _ => rfl, c2, c3, c4, c5, c6, c7, c8, c9, c10, c11, c12, c13, c14, c15, k15⟩
      simp only [putAll, Act.put, List.setIfInBounds_toArray, List.set_cons_zero, List.set_cons_succ]
    | 2, _, hd, hk =>
      have h1 : d 1 = true := hk 1 (by decide +kernel)
      obtain rfl := c1 h1
      apply wpOp_at
      case ho => rfl
      intro K hK
      simp only [putAll, Act.put, List.setIfInBounds_toArray, List.set_cons_zero, List.set_cons_succ]
      go_simp
      refine hK _ _ ⟨e0, .pointer (some ⟨w.heap.size, 0, none⟩), .pointer (some ⟨w.heap.size, 0, none⟩), e3, e4, e5, e6, e7, e8, e9, e10, e11, e12, e13, e14, gb, ?_, hB, c0, c1, fun _ => rfl, c3, c4, c5, c6, c7, c8, c9, c10, c11, c12, c13, c14, c15, k15⟩
      simp only [putAll, Act.put, List.setIfInBounds_toArray, List.set_cons_zero, List.set_cons_succ]
    | 3, _, hd, hk =>
      have h2 : d 2 = true := hk 2 (by decide +kernel)
      obtain rfl := c2 h2
      have HXc := HX2.out.later hB HX2.out.lt
      have z0 := HXc.cell 0
      have z1 := HXc.cell 1
      have z2 := HXc.cell 2
      have z3 := HXc.cell 3
      apply wpOp_at
      case ho => rfl
      intro K hK
      simp only [putAll, Act.put, List.setIfInBounds_toArray, List.set_cons_zero, List.set_cons_succ]
      go_simp
      refine hK _ _ ⟨e0, e1, .pointer (some ⟨w.heap.size, 0, none⟩), .slice ax1 nx1 cx1, e4, e5, e6, e7, e8, e9, e10, e11, e12, e13, e14, gb, ?_, hB, c0, c1, c2, fun _ => rfl, c4, c5, c6, c7, c8, c9, c10, c11, c12, c13, c14, c15, k15⟩
      simp only [putAll, Act.put, List.setIfInBounds_toArray, List.set_cons_zero, List.set_cons_succ]
    | 4, _, hd, hk =>
      have h0 : d 0 = true := hk 0 (by decide +kernel)
      have h3 : d 3 = true := hk 3 (by decide +kernel)
      obtain rfl := c3 h3
      obtain ⟨g0, rfl⟩ := c0 h0
      obtain ⟨⟨a1, n1, d1⟩, wN, hrun, hS, hb, hoff⟩ := run_bytes_copy w' g0 (a := ax1) (n := nx1) (c := cx1) (HT2.out.1.1.later hB).2.2 (HT2.out.1.1).1 (by have := hfit.1.1; omega)
      obtain ⟨hf, hv, hw⟩ := fine_of hrun
      apply wpOp_at
      case ho => rfl
      intro K hK
      simp only [putAll, Act.put, List.setIfInBounds_toArray, List.set_cons_zero, List.set_cons_succ]
      go_simp
      refine hK _ _ ⟨.slice (some ⟨g0, 0, none⟩) 0 0, e1, e2, .slice ax1 nx1 cx1, .slice a1 n1 d1, e5, e6, e7, e8, e9, e10, e11, e12, e13, e14, gb, ?_, hB.trans (hb.mono hB.size), c0, c1, c2, c3, fun _ => ⟨⟨a1, n1, d1⟩, rfl, hS, fun h => hoff gb (c14 h).2.2.1⟩, c5, c6, c7, c8, fun h => (c9 h).later hb, fun h => (c10 h).later hb, c11, c12, fun h => (c13 h).later hb, fun h => (c14 h).later hb, c15, k15⟩
      simp only [putAll, Act.put, List.setIfInBounds_toArray, List.set_cons_zero, List.set_cons_succ]
    | 5, _, hd, hk =>
      have hb := below_box w' (.cells #[] 5)
      apply wpOp_at
      case ho => rfl
      intro K hK
      simp only [putAll, Act.put, List.setIfInBounds_toArray, List.set_cons_zero, List.set_cons_succ]
      go_simp
      refine hK _ _ ⟨e0, e1, e2, e3, e4, .slice (some ⟨w'.heap.size, 0, none⟩) 0 0, e6, e7, e8, e9, e10, e11, e12, e13, e14, gb, ?_, hB.trans (hb.mono hB.size), c0, c1, c2, c3, fun h => (c4 h).later hb, fun _ => ⟨_, rfl⟩, c6, c7, c8, fun h => (c9 h).later hb, fun h => (c10 h).later hb, c11, c12, fun h => (c13 h).later hb, fun h => (c14 h).later hb, c15, k15⟩
      simp only [putAll, Act.put, List.setIfInBounds_toArray, List.set_cons_zero, List.set_cons_succ]
    | 6, _, hd, hk =>
      apply wpOp_at
      case ho => rfl
      intro K hK
      simp only [putAll, Act.put, List.setIfInBounds_toArray, List.set_cons_zero, List.set_cons_succ]
      go_simp
      refine hK _ _ ⟨e0, e1, e2, e3, e4, e5, .pointer (some ⟨w.heap.size, 0, none⟩), e7, e8, e9, e10, e11, e12, e13, e14, gb, ?_, hB, c0, c1, c2, c3, c4, c5, fun _ => rfl, c7, c8, c9, c10, c11, c12, c13, c14, c15, k15⟩
      simp only [putAll, Act.put, List.setIfInBounds_toArray, List.set_cons_zero, List.set_cons_succ]
    | 7, _, hd, hk =>
      have h6 : d 6 = true := hk 6 (by decide +kernel)
      obtain rfl := c6 h6
      apply wpOp_at
      case ho => rfl
      intro K hK
      simp only [putAll, Act.put, List.setIfInBounds_toArray, List.set_cons_zero, List.set_cons_succ]
      go_simp
      refine hK _ _ ⟨e0, e1, e2, e3, e4, e5, .pointer (some ⟨w.heap.size, 0, none⟩), .pointer (some ⟨w.heap.size, 1, none⟩), e8, e9, e10, e11, e12, e13, e14, gb, ?_, hB, c0, c1, c2, c3, c4, c5, c6, fun _ => rfl, c8, c9, c10, c11, c12, c13, c14, c15, k15⟩
      simp only [putAll, Act.put, List.setIfInBounds_toArray, List.set_cons_zero, List.set_cons_succ]
    | 8, _, hd, hk =>
      have h7 : d 7 = true := hk 7 (by decide +kernel)
      obtain rfl := c7 h7
      have HXc := HX2.out.later hB HX2.out.lt
      have z0 := HXc.cell 0
      have z1 := HXc.cell 1
      have z2 := HXc.cell 2
      have z3 := HXc.cell 3
      apply wpOp_at
      case ho => rfl
      intro K hK
      simp only [putAll, Act.put, List.setIfInBounds_toArray, List.set_cons_zero, List.set_cons_succ]
      go_simp
      refine hK _ _ ⟨e0, e1, e2, e3, e4, e5, e6, .pointer (some ⟨w.heap.size, 1, none⟩), .slice ax2 nx2 cx2, e9, e10, e11, e12, e13, e14, gb, ?_, hB, c0, c1, c2, c3, c4, c5, c6, c7, fun _ => rfl, c9, c10, c11, c12, c13, c14, c15, k15⟩
      simp only [putAll, Act.put, List.setIfInBounds_toArray, List.set_cons_zero, List.set_cons_succ]
    | 9, _, hd, hk =>
      have h5 : d 5 = true := hk 5 (by decide +kernel)
      have h8 : d 8 = true := hk 8 (by decide +kernel)
      obtain rfl := c8 h8
      obtain ⟨g0, rfl⟩ := c5 h5
      obtain ⟨⟨a2, n2, d2⟩, wN, hrun, hS, hb, hoff⟩ := run_bytes_copy w' g0 (a := ax2) (n := nx2) (c := cx2) (HT2.out.1.2.later hB).2.2 (HT2.out.1.2).1 (by have := hfit.1.2; omega)
      obtain ⟨hf, hv, hw⟩ := fine_of hrun
      apply wpOp_at
      case ho => rfl
      intro K hK
      simp only [putAll, Act.put, List.setIfInBounds_toArray, List.set_cons_zero, List.set_cons_succ]
      go_simp
      refine hK _ _ ⟨e0, e1, e2, e3, e4, .slice (some ⟨g0, 0, none⟩) 0 0, e6, e7, .slice ax2 nx2 cx2, .slice a2 n2 d2, e10, e11, e12, e13, e14, gb, ?_, hB.trans (hb.mono hB.size), c0, c1, c2, c3, fun h => (c4 h).later hb, c5, c6, c7, c8, fun _ => ⟨⟨a2, n2, d2⟩, rfl, hS, fun h => hoff gb (c14 h).2.2.1⟩, fun h => (c10 h).later hb, c11, c12, fun h => (c13 h).later hb, fun h => (c14 h).later hb, c15, k15⟩
      simp only [putAll, Act.put, List.setIfInBounds_toArray, List.set_cons_zero, List.set_cons_succ]
    | 10, _, hd, hk =>
      have h4 : d 4 = true := hk 4 (by decide +kernel)
      have h9 : d 9 = true := hk 9 (by decide +kernel)
      obtain ⟨⟨a1, n1, c1'⟩, rfl, hS1, o1⟩ := c4 h4
      obtain ⟨⟨a2, n2, c2'⟩, rfl, hS2, o2⟩ := c9 h9
      apply wpOp_at
      case ho => rfl
      intro K hK
      simp only [putAll, Act.put, List.setIfInBounds_toArray, List.set_cons_zero, List.set_cons_succ]
      go_simp
      refine hK _ _ ⟨e0, e1, e2, e3, .slice a1 n1 c1', e5, e6, e7, e8, .slice a2 n2 c2', .agg #[.slice a1 n1 c1', .slice a2 n2 c2'], e11, e12, e13, e14, gb, ?_, hB, c0, c1, c2, c3, c4, c5, c6, c7, c8, c9, fun _ => ⟨⟨⟨a1, n1, c1'⟩, ⟨a2, n2, c2'⟩⟩, rfl, ⟨hS1, hS2⟩, fun h => ⟨o1 h, o2 h⟩⟩, c11, c12, c13, c14, c15, k15⟩
      simp only [putAll, Act.put, List.setIfInBounds_toArray, List.set_cons_zero, List.set_cons_succ]
    | 11, _, hd, hk =>
      apply wpOp_at
      case ho => rfl
      intro K hK
      simp only [putAll, Act.put, List.setIfInBounds_toArray, List.set_cons_zero, List.set_cons_succ]
      go_simp
      refine hK _ _ ⟨e0, e1, e2, e3, e4, e5, e6, e7, e8, e9, e10, .pointer (some ⟨w.heap.size, 2, none⟩), e12, e13, e14, gb, ?_, hB, c0, c1, c2, c3, c4, c5, c6, c7, c8, c9, c10, fun _ => rfl, c12, c13, c14, c15, k15⟩
      simp only [putAll, Act.put, List.setIfInBounds_toArray, List.set_cons_zero, List.set_cons_succ]
    | 12, _, hd, hk =>
      have h11 : d 11 = true := hk 11 (by decide +kernel)
      obtain rfl := c11 h11
      have HXc := HX2.out.later hB HX2.out.lt
      have z0 := HXc.cell 0
      have z1 := HXc.cell 1
      have z2 := HXc.cell 2
      have z3 := HXc.cell 3
      apply wpOp_at
      case ho => rfl
      intro K hK
      simp only [putAll, Act.put, List.setIfInBounds_toArray, List.set_cons_zero, List.set_cons_succ]
      go_simp
      refine hK _ _ ⟨e0, e1, e2, e3, e4, e5, e6, e7, e8, e9, e10, .pointer (some ⟨w.heap.size, 2, none⟩), .agg #[.slice ax3 nx3 cx3, .slice ax4 nx4 cx4], e13, e14, gb, ?_, hB, c0, c1, c2, c3, c4, c5, c6, c7, c8, c9, c10, c11, fun _ => rfl, c13, c14, c15, k15⟩
      simp only [putAll, Act.put, List.setIfInBounds_toArray, List.set_cons_zero, List.set_cons_succ]
    | 13, _, hd, hk =>
      have h10 : d 10 = true := hk 10 (by decide +kernel)
      have h12 : d 12 = true := hk 12 (by decide +kernel)
      obtain rfl := c12 h12
      obtain ⟨⟨⟨a1, n1, c1'⟩, ⟨a2, n2, c2'⟩⟩, rfl, hS, o1⟩ := c10 h10
      apply wpOp_at
      case ho => rfl
      intro K hK
      simp only [putAll, Act.put, List.setIfInBounds_toArray, List.set_cons_zero, List.set_cons_succ]
      go_simp
      refine hK _ _ ⟨e0, e1, e2, e3, e4, e5, e6, e7, e8, e9, .agg #[.slice a1 n1 c1', .slice a2 n2 c2'], e11, .agg #[.slice ax3 nx3 cx3, .slice ax4 nx4 cx4], .agg #[.slice a1 n1 c1', .slice a2 n2 c2', .slice ax3 nx3 cx3, .slice ax4 nx4 cx4], e14, gb, ?_, hB, c0, c1, c2, c3, c4, c5, c6, c7, c8, c9, c10, c11, c12, fun _ => ⟨⟨⟨⟨a1, n1, c1'⟩, ⟨a2, n2, c2'⟩⟩, ⟨⟨ax3, nx3, cx3⟩, ⟨ax4, nx4, cx4⟩⟩⟩, rfl, ⟨hS, (HT2.out.later hB).2⟩, fun h => ⟨o1 h, (HT2.out.off (c14 h).2.1).2⟩⟩, c14, c15, k15⟩
      simp only [putAll, Act.put, List.setIfInBounds_toArray, List.set_cons_zero, List.set_cons_succ]
    | 14, _, hd, hk =>
      have hb := below_box w' (.cells #[.slice none 0 0, .slice none 0 0, .slice none 0 0, .slice none 0 0] 26)
      apply wpOp_at
      case ho => rfl
      intro K hK
      simp only [putAll, Act.put, List.setIfInBounds_toArray, List.set_cons_zero, List.set_cons_succ]
      go_simp
      refine hK _ _ ⟨e0, e1, e2, e3, e4, e5, e6, e7, e8, e9, e10, e11, e12, e13, .pointer (some ⟨w'.heap.size, 0, none⟩), w'.heap.size, ?_, hB.trans (hb.mono hB.size), c0, c1, c2, c3, fun h => (c4 h).made hb, c5, c6, c7, c8, fun h => (c9 h).made hb, fun h => (c10 h).made hb, c11, c12, fun h => (c13 h).made hb, fun _ => ⟨rfl, hB.size, by simp, _, _, _, _, Whole.made w' _ _, fun h => absurd (k15 h) (by rw [hd]; decide)⟩, c15, fun _ => rfl⟩
      simp only [putAll, Act.put, List.setIfInBounds_toArray, List.set_cons_zero, List.set_cons_succ]
    | 15, _, hd, hk =>
      have h13 : d 13 = true := hk 13 (by decide +kernel)
      have h14 : d 14 = true := hk 14 (by decide +kernel)
      obtain ⟨⟨⟨⟨ao1, no1, co1⟩, ⟨ao2, no2, co2⟩⟩, ⟨⟨ao3, no3, co3⟩, ⟨ao4, no4, co4⟩⟩⟩, rfl, hT, ho⟩ := c13 h13
      obtain ⟨rfl, hg1, hg2, v0, v1, v2, v3, hW, _⟩ := c14 h14
      have z0 := hW.cell 0
      have z1 := hW.cell 1
      have z2 := hW.cell 2
      have z3 := hW.cell 3
      have y0 := hW.free 0
      have y1 := hW.free 1
      have y2 := hW.free 2
      have y3 := hW.free 3
      apply wpOp_at
      case ho => rfl
      intro K hK
      simp only [putAll, Act.put, List.setIfInBounds_toArray, List.set_cons_zero, List.set_cons_succ]
      go_simp
      refine hK _ _ ⟨e0, e1, e2, e3, e4, e5, e6, e7, e8, e9, e10, e11, e12, .agg #[.slice ao1 no1 co1, .slice ao2 no2 co2, .slice ao3 no3 co3, .slice ao4 no4 co4], .pointer (some ⟨gb, 0, none⟩), gb, ?_, below_four hB hg1 _ _ _ _, c0, c1, c2, c3, fun h => (c4 h).store h14 _ _ _ _, c5, c6, c7, c8, fun h => (c9 h).store h14 _ _ _ _, fun h => (c10 h).store h14 _ _ _ _, c11, c12, fun h => (c13 h).store h14 _ _ _ _, fun _ => ⟨rfl, hg1, by simpa using hg2, _, _, _, _, tape_left4 hW _ _ _ _, fun _ => RTo.store ⟨⟨⟨⟨ao1, no1, co1⟩, ⟨ao2, no2, co2⟩⟩, ⟨⟨ao3, no3, co3⟩, ⟨ao4, no4, co4⟩⟩⟩, rfl, hT, ho⟩ h14 _ _ _ _⟩, fun _ => trivial, fun _ => h14⟩
      simp only [putAll, Act.put, List.setIfInBounds_toArray, List.set_cons_zero, List.set_cons_succ]
    | k + 16, hi, _, _ => exact absurd hi (by simp)
  case ends =>
    intro d a' w3 hJ hall
    obtain ⟨e0, e1, e2, e3, e4, e5, e6, e7, e8, e9, e10, e11, e12, e13, e14, gb, rfl, hB, c0, c1, c2, c3, c4, c5, c6, c7, c8, c9, c10, c11, c12, c13, c14, c15, k15⟩ := hJ
    obtain ⟨rfl, hg9, hl9, v0, v1, v2, v3, hW9, r9⟩ := c14 (hall 14 (by decide +kernel))
    obtain ⟨⟨⟨⟨ao1, no1, co1⟩, ⟨ao2, no2, co2⟩⟩, ⟨⟨ao3, no3, co3⟩, ⟨ao4, no4, co4⟩⟩⟩, eo, hTo, _⟩ := r9 (hall 15 (by decide +kernel))
    simp only [tpV, slV, Value.agg.injEq, Array.mk.injEq, List.cons.injEq, and_true] at eo
    obtain ⟨rfl, rfl, rfl, rfl⟩ := eo
    have HTo := Lib.hid hTo
    have HX9 := Lib.hid hW9
    have Hb3 := Lib.hid (held_next Hb2.out hB)
    have HX3 := Lib.hid (HX2.out.later hB HX2.out.lt)
    have HT3 := Lib.hid (HT2.out.later hB)
    clear c0 c1 c2 c3 c4 c5 c6 c7 c8 c9 c10 c11 c12 c13 c14 c15 k15 r9 hTo hW9 hall
    simp only [putAll, Act.put, List.setIfInBounds_toArray, List.set_cons_zero, List.set_cons_succ]
    have hf4 : Hid (t.fits 400000) := ⟨⟨by have := hfit.1.1; omega, by have := hfit.1.2; omega⟩, by have := hfit.2.1; omega, by have := hfit.2.2; omega⟩
    have hf1 : Hid (t.fits 1000000) := ⟨⟨by have := hfit.1.1; omega, by have := hfit.1.2; omega⟩, by have := hfit.2.1; omega, by have := hfit.2.2; omega⟩
    obtain ⟨t1, Ht1⟩ : ∃ z, Hid ((writeT t sp zb).1 = z) := ⟨_, rfl⟩
    obtain ⟨k1, Hk1⟩ : ∃ z, Hid ((writeT t sp zb).2 = z) := ⟨_, rfl⟩
    have z0 := HX9.out.cell 0
    have z1 := HX9.out.cell 1
    have z2 := HX9.out.cell 2
    have z3 := HX9.out.cell 3
    clear hB
    go_wp2_with fail
    refine (tWrite_calls ⟨⟨⟨ao1, no1, co1⟩, ⟨ao2, no2, co2⟩⟩, ⟨⟨ao3, no3, co3⟩, ⟨ao4, no4, co4⟩⟩⟩ t sp ⟨ab, nb, cb⟩ zb _ HTo.out hf4.out (HSB.out.later Hb3.out) (by have := Hlb.out; omega)).mono ?_
    rintro e w4 ⟨⟨⟨⟨ay1, ny1, cy1⟩, ⟨ay2, ny2, cy2⟩⟩, ⟨⟨ay3, ny3, cy3⟩, ⟨ay4, ny4, cy4⟩⟩⟩, rfl, hT, _, hb⟩
    rw [Ht1.out] at hT
    rw [Hk1.out]
    have HTy4 := Lib.hid hT
    have hb4 := held_next hb (below_box w4 (.cells #[.slice ay1 ny1 cy1, .slice ay2 ny2 cy2, .slice ay3 ny3 cy3, .slice ay4 ny4 cy4] 26))
    have HY4 := Lib.hid (Whole.made w4 26 #[.slice ay1 ny1 cy1, .slice ay2 ny2 cy2, .slice ay3 ny3 cy3, .slice ay4 ny4 cy4])
    have HTy5 := Lib.hid (HTy4.out.later (below_box w4 (.cells #[.slice ay1 ny1 cy1, .slice ay2 ny2 cy2, .slice ay3 ny3 cy3, .slice ay4 ny4 cy4] 26)))
    have HX4 := Lib.hid (HX3.out.later hb4 HX3.out.lt)
    have HO4 := Lib.hid (HX9.out.later hb4 HX9.out.lt)
    have HT4 := Lib.hid (HT3.out.later hb4)
    have HTo4 := Lib.hid (HTo.out.later hb4)
    have Hb4 := Lib.hid (held_next Hb3.out hb4)
    clear hb hT hb4 z0 z1 z2 z3
    have z0 := HX4.out.cell 0
    have z1 := HX4.out.cell 1
    have z2 := HX4.out.cell 2
    have z3 := HX4.out.cell 3
    go_wp2_with fail
    refine (reftwrite_calls ⟨⟨⟨ax1, nx1, cx1⟩, ⟨ax2, nx2, cx2⟩⟩, ⟨⟨ax3, nx3, cx3⟩, ⟨ax4, nx4, cx4⟩⟩⟩ t sp ⟨ab, nb, cb⟩ zb _ HT4.out hf4.out (HSB.out.later Hb4.out) (by have := Hlb.out; omega)).mono ?_
    rintro e w5 ⟨⟨⟨⟨av1, nv1, cv1⟩, ⟨av2, nv2, cv2⟩⟩, ⟨⟨av3, nv3, cv3⟩, ⟨av4, nv4, cv4⟩⟩⟩, rfl, hT, _, hb⟩
    rw [Ht1.out] at hT
    rw [Hk1.out]
    obtain ⟨w8, hw8⟩ : ∃ z, w5.alloc (.cells #[.slice av1 nv1 cv1, .slice av2 nv2 cv2, .slice av3 nv3 cv3, .slice av4 nv4 cv4] 26) = z := ⟨_, rfl⟩
    have hb5 := held_next hb (below_box w5 (.cells #[.slice av1 nv1 cv1, .slice av2 nv2 cv2, .slice av3 nv3 cv3, .slice av4 nv4 cv4] 26))
    rw [hw8] at hb5
    have HV8 : Hid (Whole w8 w5.heap.size 26 #[.slice av1 nv1 cv1, .slice av2 nv2 cv2, .slice av3 nv3 cv3, .slice av4 nv4 cv4]) := by rw [← hw8]; exact Whole.made w5 _ _
    have HTv8 : Hid (TB w8 ⟨⟨⟨av1, nv1, cv1⟩, ⟨av2, nv2, cv2⟩⟩, ⟨⟨av3, nv3, cv3⟩, ⟨av4, nv4, cv4⟩⟩⟩ t1) := by rw [← hw8]; exact hT.later (below_box w5 _)
    have HX8 := Lib.hid (HX4.out.later hb5 HX4.out.lt)
    have HO8 := Lib.hid (HO4.out.later hb5 HO4.out.lt)
    have HY8 := Lib.hid (HY4.out.later hb5 HY4.out.lt)
    have HT8 := Lib.hid (HT4.out.later hb5)
    have HTo8 := Lib.hid (HTo4.out.later hb5)
    have HTy8 := Lib.hid (HTy5.out.later hb5)
    have Hb8 := Lib.hid (held_next Hb4.out hb5)
    clear hb hT hb5 z0 z1 z2 z3
    go_wp2_with fail
    clear hw8
    have KP : Hid (∀ w', Below w8.heap.size w8 w' → Below w8.heap.size w8 w' ∧ (w'.cell? ⟨gb, 0, none⟩ = some (.slice ao1 no1 co1) ∧ w'.cell? ⟨gb, 1, none⟩ = some (.slice ao2 no2 co2) ∧ w'.cell? ⟨gb, 2, none⟩ = some (.slice ao3 no3 co3) ∧ w'.cell? ⟨gb, 3, none⟩ = some (.slice ao4 no4 co4)) ∧ (w'.cell? ⟨w.heap.size, 0, none⟩ = some (.slice ax1 nx1 cx1) ∧ w'.cell? ⟨w.heap.size, 1, none⟩ = some (.slice ax2 nx2 cx2) ∧ w'.cell? ⟨w.heap.size, 2, none⟩ = some (.slice ax3 nx3 cx3) ∧ w'.cell? ⟨w.heap.size, 3, none⟩ = some (.slice ax4 nx4 cx4)) ∧ (w'.cell? ⟨w4.heap.size, 0, none⟩ = some (.slice ay1 ny1 cy1) ∧ w'.cell? ⟨w4.heap.size, 1, none⟩ = some (.slice ay2 ny2 cy2) ∧ w'.cell? ⟨w4.heap.size, 2, none⟩ = some (.slice ay3 ny3 cy3) ∧ w'.cell? ⟨w4.heap.size, 3, none⟩ = some (.slice ay4 ny4 cy4)) ∧ (w'.cell? ⟨w5.heap.size, 0, none⟩ = some (.slice av1 nv1 cv1) ∧ w'.cell? ⟨w5.heap.size, 1, none⟩ = some (.slice av2 nv2 cv2) ∧ w'.cell? ⟨w5.heap.size, 2, none⟩ = some (.slice av3 nv3 cv3) ∧ w'.cell? ⟨w5.heap.size, 3, none⟩ = some (.slice av4 nv4 cv4))) := fun w' h => ⟨h, ⟨(HO8.out.later h HO8.out.lt).cell 0, (HO8.out.later h HO8.out.lt).cell 1, (HO8.out.later h HO8.out.lt).cell 2, (HO8.out.later h HO8.out.lt).cell 3⟩, ⟨(HX8.out.later h HX8.out.lt).cell 0, (HX8.out.later h HX8.out.lt).cell 1, (HX8.out.later h HX8.out.lt).cell 2, (HX8.out.later h HX8.out.lt).cell 3⟩, ⟨(HY8.out.later h HY8.out.lt).cell 0, (HY8.out.later h HY8.out.lt).cell 1, (HY8.out.later h HY8.out.lt).cell 2, (HY8.out.later h HY8.out.lt).cell 3⟩, ⟨(HV8.out.later h HV8.out.lt).cell 0, (HV8.out.later h HV8.out.lt).cell 1, (HV8.out.later h HV8.out.lt).cell 2, (HV8.out.later h HV8.out.lt).cell 3⟩⟩
    have O1 : Hid (∀ w', Below w8.heap.size w8 w' → Calls Try.prog 10 #[.agg #[.slice ao1 no1 co1, .slice ao2 no2 co2, .slice ao3 no3 co3, .slice ao4 no4 co4]] w' (Says w' (mayT t))) := fun w' h => tMay_calls ⟨⟨⟨ao1, no1, co1⟩, ⟨ao2, no2, co2⟩⟩, ⟨⟨ao3, no3, co3⟩, ⟨ao4, no4, co4⟩⟩⟩ t w' (HTo8.out.later h) hf4.out
    have O2 : Hid (∀ w', Below w8.heap.size w8 w' → Calls Try.prog 11 #[.agg #[.slice ax1 nx1 cx1, .slice ax2 nx2 cx2, .slice ax3 nx3 cx3, .slice ax4 nx4 cx4]] w' (Says w' (mayT t))) := fun w' h => reftmay_calls ⟨⟨⟨ax1, nx1, cx1⟩, ⟨ax2, nx2, cx2⟩⟩, ⟨⟨ax3, nx3, cx3⟩, ⟨ax4, nx4, cx4⟩⟩⟩ t w' (HT8.out.later h) hf1.out
    have O3 : Hid (∀ w', Below w8.heap.size w8 w' → Calls Try.prog 12 #[.agg #[.slice ay1 ny1 cy1, .slice ay2 ny2 cy2, .slice ay3 ny3 cy3, .slice ay4 ny4 cy4], .agg #[.slice av1 nv1 cv1, .slice av2 nv2 cv2, .slice av3 nv3 cv3, .slice av4 nv4 cv4]] w' (Says w' true)) := fun w' h => reftsame_yes ⟨⟨⟨ay1, ny1, cy1⟩, ⟨ay2, ny2, cy2⟩⟩, ⟨⟨ay3, ny3, cy3⟩, ⟨ay4, ny4, cy4⟩⟩⟩ ⟨⟨⟨av1, nv1, cv1⟩, ⟨av2, nv2, cv2⟩⟩, ⟨⟨av3, nv3, cv3⟩, ⟨av4, nv4, cv4⟩⟩⟩ t1 w' (HTy8.out.later h) (HTv8.out.later h)
    have O4 : Hid (∀ w', Below w8.heap.size w8 w' → Calls Try.prog 13 #[.agg #[.slice ax1 nx1 cx1, .slice ax2 nx2 cx2]] w' (Bytesd w' (AOff · ⟨⟨ax1, nx1, cx1⟩, ⟨ax2, nx2, cx2⟩⟩ t.m) t.m.all)) := fun w' h => tBytes_calls ⟨⟨ax1, nx1, cx1⟩, ⟨ax2, nx2, cx2⟩⟩ t.m w' (HT8.out.1.later h) hf4.out.1
    have O5 : Hid (∀ w', Below w8.heap.size w8 w' → Calls Try.prog 14 #[.agg #[.slice ax1 nx1 cx1, .slice ax2 nx2 cx2]] w' (Bytesd w' (fun _ => True) t.m.all)) := fun w' h => reftbytes_calls ⟨⟨ax1, nx1, cx1⟩, ⟨ax2, nx2, cx2⟩⟩ t.m w' (HT8.out.1.later h) hf1.out.1
    obtain ⟨mt, Hmt⟩ : ∃ z, Hid (mayT t = z) := ⟨_, rfl⟩
    rw [Hmt.out] at O1 O2
    have hss := str_same (rfl : strOfNums t.m.all = strOfNums t.m.all)
    go_cut [78] from 52 to 78 (fun s78 wx => s78 = .bool false ∧ Hid (Below w8.heap.size w8 wx))
    case first =>
      first | go_region_held (fun w' => Below w8.heap.size w8 w' ∧ (w'.cell? ⟨gb, 0, none⟩ = some (.slice ao1 no1 co1) ∧ w'.cell? ⟨gb, 1, none⟩ = some (.slice ao2 no2 co2) ∧ w'.cell? ⟨gb, 2, none⟩ = some (.slice ao3 no3 co3) ∧ w'.cell? ⟨gb, 3, none⟩ = some (.slice ao4 no4 co4)) ∧ (w'.cell? ⟨w.heap.size, 0, none⟩ = some (.slice ax1 nx1 cx1) ∧ w'.cell? ⟨w.heap.size, 1, none⟩ = some (.slice ax2 nx2 cx2) ∧ w'.cell? ⟨w.heap.size, 2, none⟩ = some (.slice ax3 nx3 cx3) ∧ w'.cell? ⟨w.heap.size, 3, none⟩ = some (.slice ax4 nx4 cx4)) ∧ (w'.cell? ⟨w4.heap.size, 0, none⟩ = some (.slice ay1 ny1 cy1) ∧ w'.cell? ⟨w4.heap.size, 1, none⟩ = some (.slice ay2 ny2 cy2) ∧ w'.cell? ⟨w4.heap.size, 2, none⟩ = some (.slice ay3 ny3 cy3) ∧ w'.cell? ⟨w4.heap.size, 3, none⟩ = some (.slice ay4 ny4 cy4)) ∧ (w'.cell? ⟨w5.heap.size, 0, none⟩ = some (.slice av1 nv1 cv1) ∧ w'.cell? ⟨w5.heap.size, 1, none⟩ = some (.slice av2 nv2 cv2) ∧ w'.cell? ⟨w5.heap.size, 2, none⟩ = some (.slice av3 nv3 cv3) ∧ w'.cell? ⟨w5.heap.size, 3, none⟩ = some (.slice av4 nv4 cv4))) (first | exact KP.out _ (Below.refl _ _).drew | (refine KP.out _ ?_; assumption)) (first | (go_at_call 10; have hcur := (‹Below w8.heap.size w8 _ ∧ _ ∧ _›).1; have hcall := O1.out _ hcur; (with_reducible refine hcall.mono ?_); rintro e wn ⟨rfl, hb⟩; have hS := held_next hcur hb; clear hb hcall hcur) | (go_at_call 11; have hcur := (‹Below w8.heap.size w8 _ ∧ _ ∧ _›).1; have hcall := O2.out _ hcur; (with_reducible refine hcall.mono ?_); rintro e wn ⟨rfl, hb⟩; have hS := held_next hcur hb; clear hb hcall hcur) | (go_at_call 12; have hcur := (‹Below w8.heap.size w8 _ ∧ _ ∧ _›).1; have hcall := O3.out _ hcur; (with_reducible refine hcall.mono ?_); rintro e wn ⟨rfl, hb⟩; have hS := held_next hcur hb; clear hb hcall hcur) | (go_at_call 13; have hcur := (‹Below w8.heap.size w8 _ ∧ _ ∧ _›).1; have hcall := O4.out _ hcur; (with_reducible refine hcall.mono ?_); rintro e wn ⟨⟨a5, n5, c5⟩, rfl, hS5, _, hb⟩; have hS := held_next hcur hb; have HS5 := Lib.hid hS5; have hcv5 := tstr_any hS5.2.2; simp only [slV] at hcv5; clear hb hcall hcur hS5) | (go_at_call 14; have hcur := (‹Below w8.heap.size w8 _ ∧ _ ∧ _›).1; have hcall := O5.out _ hcur; (with_reducible refine hcall.mono ?_); rintro e wm ⟨⟨a6, n6, c6⟩, rfl, hS6, _, hb⟩; have hS := held_next hcur hb; have hcv6 := tstr_any hS6.2.2; have hcv7 := tstr_any (HS5.out.later hb).2.2; simp only [slV] at hcv6 hcv7; clear hb hcall hcur hS6)) | fail
      all_goals go_wp2_with fail
      all_goals go_meet
      all_goals exact ⟨rfl, (‹Below w8.heap.size w8 _ ∧ _ ∧ _›).1⟩
    case rest =>
      obtain ⟨rfl, Hbc⟩ := hcut
      obtain ⟨wk, hwk⟩ : ∃ z, z = wc := ⟨_, rfl⟩
      subst hwk
      clear KP O1 O2 O3 O4 O5 hss HTy8 HTv8 HY8 HV8
      have HXc := Lib.hid (HX8.out.later Hbc.out HX8.out.lt)
      have HOc := Lib.hid (HO8.out.later Hbc.out HO8.out.lt)
      have HTc := Lib.hid (HT8.out.later Hbc.out)
      have HToc := Lib.hid (HTo8.out.later Hbc.out)
      have Hbw := Lib.hid (held_next Hb8.out Hbc.out)
      clear HX8 HO8 HT8 HTo8 Hbc Hb8
      have KP : Hid (∀ w', Below wk.heap.size wk w' → Below wk.heap.size wk w' ∧ (w'.cell? ⟨gb, 0, none⟩ = some (.slice ao1 no1 co1) ∧ w'.cell? ⟨gb, 1, none⟩ = some (.slice ao2 no2 co2) ∧ w'.cell? ⟨gb, 2, none⟩ = some (.slice ao3 no3 co3) ∧ w'.cell? ⟨gb, 3, none⟩ = some (.slice ao4 no4 co4)) ∧ (w'.cell? ⟨w.heap.size, 0, none⟩ = some (.slice ax1 nx1 cx1) ∧ w'.cell? ⟨w.heap.size, 1, none⟩ = some (.slice ax2 nx2 cx2) ∧ w'.cell? ⟨w.heap.size, 2, none⟩ = some (.slice ax3 nx3 cx3) ∧ w'.cell? ⟨w.heap.size, 3, none⟩ = some (.slice ax4 nx4 cx4))) := fun w' h => ⟨h, ⟨(HOc.out.later h HOc.out.lt).cell 0, (HOc.out.later h HOc.out.lt).cell 1, (HOc.out.later h HOc.out.lt).cell 2, (HOc.out.later h HOc.out.lt).cell 3⟩, ⟨(HXc.out.later h HXc.out.lt).cell 0, (HXc.out.later h HXc.out.lt).cell 1, (HXc.out.later h HXc.out.lt).cell 2, (HXc.out.later h HXc.out.lt).cell 3⟩⟩
      have PSync : Hid (∀ w', Below wk.heap.size wk w' → Calls Try.prog 15 #[.agg #[.slice ao1 no1 co1, .slice ao2 no2 co2, .slice ao3 no3 co3, .slice ao4 no4 co4], .bool sp] w' (Taped w' (TOff · ⟨⟨⟨ao1, no1, co1⟩, ⟨ao2, no2, co2⟩⟩, ⟨⟨ao3, no3, co3⟩, ⟨ao4, no4, co4⟩⟩⟩ t) (syncT t sp))) := fun w' h => tSync_calls ⟨⟨⟨ao1, no1, co1⟩, ⟨ao2, no2, co2⟩⟩, ⟨⟨ao3, no3, co3⟩, ⟨ao4, no4, co4⟩⟩⟩ t sp w' (HToc.out.later h) hf4.out
      have RSync : Hid (∀ w', Below wk.heap.size wk w' → Calls Try.prog 16 #[.agg #[.slice ax1 nx1 cx1, .slice ax2 nx2 cx2, .slice ax3 nx3 cx3, .slice ax4 nx4 cx4], .bool sp] w' (Taped w' (TOff · ⟨⟨⟨ax1, nx1, cx1⟩, ⟨ax2, nx2, cx2⟩⟩, ⟨⟨ax3, nx3, cx3⟩, ⟨ax4, nx4, cx4⟩⟩⟩ t) (syncT t sp))) := fun w' h => refsync_calls ⟨⟨⟨ax1, nx1, cx1⟩, ⟨ax2, nx2, cx2⟩⟩, ⟨⟨ax3, nx3, cx3⟩, ⟨ax4, nx4, cx4⟩⟩⟩ t sp w' (HTc.out.later h) hf1.out
      have PTurn : Hid (∀ w', Below wk.heap.size wk w' → Calls Try.prog 17 #[.agg #[.slice ao1 no1 co1, .slice ao2 no2 co2, .slice ao3 no3 co3, .slice ao4 no4 co4]] w' (Taped w' (TOff · ⟨⟨⟨ao1, no1, co1⟩, ⟨ao2, no2, co2⟩⟩, ⟨⟨ao3, no3, co3⟩, ⟨ao4, no4, co4⟩⟩⟩ t) (turnT t))) := fun w' h => tTurn_calls ⟨⟨⟨ao1, no1, co1⟩, ⟨ao2, no2, co2⟩⟩, ⟨⟨ao3, no3, co3⟩, ⟨ao4, no4, co4⟩⟩⟩ t  w' (HToc.out.later h) hf4.out
      have RTurn : Hid (∀ w', Below wk.heap.size wk w' → Calls Try.prog 18 #[.agg #[.slice ax1 nx1 cx1, .slice ax2 nx2 cx2, .slice ax3 nx3 cx3, .slice ax4 nx4 cx4]] w' (Taped w' (TOff · ⟨⟨⟨ax1, nx1, cx1⟩, ⟨ax2, nx2, cx2⟩⟩, ⟨⟨ax3, nx3, cx3⟩, ⟨ax4, nx4, cx4⟩⟩⟩ t) (turnT t))) := fun w' h => refturn_calls ⟨⟨⟨ax1, nx1, cx1⟩, ⟨ax2, nx2, cx2⟩⟩, ⟨⟨ax3, nx3, cx3⟩, ⟨ax4, nx4, cx4⟩⟩⟩ t  w' (HTc.out.later h)
      have PWipe : Hid (∀ w', Below wk.heap.size wk w' → Calls Try.prog 19 #[.agg #[.slice ao1 no1 co1, .slice ao2 no2 co2, .slice ao3 no3 co3, .slice ao4 no4 co4]] w' (Taped w' (TOff · ⟨⟨⟨ao1, no1, co1⟩, ⟨ao2, no2, co2⟩⟩, ⟨⟨ao3, no3, co3⟩, ⟨ao4, no4, co4⟩⟩⟩ t) (wipeT t))) := fun w' h => tWipe_calls ⟨⟨⟨ao1, no1, co1⟩, ⟨ao2, no2, co2⟩⟩, ⟨⟨ao3, no3, co3⟩, ⟨ao4, no4, co4⟩⟩⟩ t  w' (HToc.out.later h) hf4.out
      have RWipe : Hid (∀ w', Below wk.heap.size wk w' → Calls Try.prog 20 #[.agg #[.slice ax1 nx1 cx1, .slice ax2 nx2 cx2, .slice ax3 nx3 cx3, .slice ax4 nx4 cx4]] w' (Taped w' (TOff · ⟨⟨⟨ax1, nx1, cx1⟩, ⟨ax2, nx2, cx2⟩⟩, ⟨⟨ax3, nx3, cx3⟩, ⟨ax4, nx4, cx4⟩⟩⟩ t) (wipeT t))) := fun w' h => refwipe_calls ⟨⟨⟨ax1, nx1, cx1⟩, ⟨ax2, nx2, cx2⟩⟩, ⟨⟨ax3, nx3, cx3⟩, ⟨ax4, nx4, cx4⟩⟩⟩ t  w' (HTc.out.later h)
      go_upto_region 10 with fail
      go_cut [102] from 79 to 102 (fun s102 wx => s102 = .bool false ∧ Hid (Below wk.heap.size wk wx))
      case first =>
        go_region_held3 (fun w' => Below wk.heap.size wk w' ∧ (w'.cell? ⟨gb, 0, none⟩ = some (.slice ao1 no1 co1) ∧ w'.cell? ⟨gb, 1, none⟩ = some (.slice ao2 no2 co2) ∧ w'.cell? ⟨gb, 2, none⟩ = some (.slice ao3 no3 co3) ∧ w'.cell? ⟨gb, 3, none⟩ = some (.slice ao4 no4 co4)) ∧ (w'.cell? ⟨w.heap.size, 0, none⟩ = some (.slice ax1 nx1 cx1) ∧ w'.cell? ⟨w.heap.size, 1, none⟩ = some (.slice ax2 nx2 cx2) ∧ w'.cell? ⟨w.heap.size, 2, none⟩ = some (.slice ax3 nx3 cx3) ∧ w'.cell? ⟨w.heap.size, 3, none⟩ = some (.slice ax4 nx4 cx4))) (first | exact KP.out _ (Below.refl _ _).drew | (refine KP.out _ ?_; assumption)) (first | (go_at_call 15; have hcur := (‹Below wk.heap.size wk _ ∧ _ ∧ _›).1; have hcall := PSync.out _ hcur; (with_reducible refine hcall.mono ?_); rintro e wn ⟨⟨⟨⟨aps1, nps1, cps1⟩, ⟨aps2, nps2, cps2⟩⟩, ⟨⟨aps3, nps3, cps3⟩, ⟨aps4, nps4, cps4⟩⟩⟩, rfl, hT, _, hb⟩; have hS := held_next hcur hb; have HTps := Lib.hid hT; clear hb hcall hcur hT) | (go_at_call 16; have hcur := (‹Below wk.heap.size wk _ ∧ _ ∧ _›).1; have hcall := RSync.out _ hcur; (with_reducible refine hcall.mono ?_); rintro e wn ⟨⟨⟨⟨aqs1, nqs1, cqs1⟩, ⟨aqs2, nqs2, cqs2⟩⟩, ⟨⟨aqs3, nqs3, cqs3⟩, ⟨aqs4, nqs4, cqs4⟩⟩⟩, rfl, hT, _, hb⟩; have hS := held_next hcur hb; have HTqs := Lib.hid hT; have HTpsl := Lib.hid (HTps.out.later hb); clear hb hcall hcur hT) | (go_at_call 12; have hcur := (‹Below wk.heap.size wk _ ∧ _ ∧ _›).1; have hcall := reftsame_yes ⟨⟨⟨aps1, nps1, cps1⟩, ⟨aps2, nps2, cps2⟩⟩, ⟨⟨aps3, nps3, cps3⟩, ⟨aps4, nps4, cps4⟩⟩⟩ ⟨⟨⟨aqs1, nqs1, cqs1⟩, ⟨aqs2, nqs2, cqs2⟩⟩, ⟨⟨aqs3, nqs3, cqs3⟩, ⟨aqs4, nqs4, cqs4⟩⟩⟩ _ _ HTpsl.out HTqs.out; (with_reducible refine hcall.mono ?_); rintro e wn ⟨rfl, hb⟩; have hS := held_next hcur hb; clear hb hcall hcur) | (go_at_call 17; have hcur := (‹Below wk.heap.size wk _ ∧ _ ∧ _›).1; have hcall := PTurn.out _ hcur; (with_reducible refine hcall.mono ?_); rintro e wn ⟨⟨⟨⟨apt1, npt1, cpt1⟩, ⟨apt2, npt2, cpt2⟩⟩, ⟨⟨apt3, npt3, cpt3⟩, ⟨apt4, npt4, cpt4⟩⟩⟩, rfl, hT, _, hb⟩; have hS := held_next hcur hb; have HTpt := Lib.hid hT; clear hb hcall hcur hT) | (go_at_call 18; have hcur := (‹Below wk.heap.size wk _ ∧ _ ∧ _›).1; have hcall := RTurn.out _ hcur; (with_reducible refine hcall.mono ?_); rintro e wn ⟨⟨⟨⟨aqt1, nqt1, cqt1⟩, ⟨aqt2, nqt2, cqt2⟩⟩, ⟨⟨aqt3, nqt3, cqt3⟩, ⟨aqt4, nqt4, cqt4⟩⟩⟩, rfl, hT, _, hb⟩; have hS := held_next hcur hb; have HTqt := Lib.hid hT; have HTptl := Lib.hid (HTpt.out.later hb); clear hb hcall hcur hT) | (go_at_call 12; have hcur := (‹Below wk.heap.size wk _ ∧ _ ∧ _›).1; have hcall := reftsame_yes ⟨⟨⟨apt1, npt1, cpt1⟩, ⟨apt2, npt2, cpt2⟩⟩, ⟨⟨apt3, npt3, cpt3⟩, ⟨apt4, npt4, cpt4⟩⟩⟩ ⟨⟨⟨aqt1, nqt1, cqt1⟩, ⟨aqt2, nqt2, cqt2⟩⟩, ⟨⟨aqt3, nqt3, cqt3⟩, ⟨aqt4, nqt4, cqt4⟩⟩⟩ _ _ HTptl.out HTqt.out; (with_reducible refine hcall.mono ?_); rintro e wn ⟨rfl, hb⟩; have hS := held_next hcur hb; clear hb hcall hcur) | (go_at_call 19; have hcur := (‹Below wk.heap.size wk _ ∧ _ ∧ _›).1; have hcall := PWipe.out _ hcur; (with_reducible refine hcall.mono ?_); rintro e wn ⟨⟨⟨⟨apw1, npw1, cpw1⟩, ⟨apw2, npw2, cpw2⟩⟩, ⟨⟨apw3, npw3, cpw3⟩, ⟨apw4, npw4, cpw4⟩⟩⟩, rfl, hT, _, hb⟩; have hS := held_next hcur hb; have HTpw := Lib.hid hT; clear hb hcall hcur hT) | (go_at_call 20; have hcur := (‹Below wk.heap.size wk _ ∧ _ ∧ _›).1; have hcall := RWipe.out _ hcur; (with_reducible refine hcall.mono ?_); rintro e wn ⟨⟨⟨⟨aqw1, nqw1, cqw1⟩, ⟨aqw2, nqw2, cqw2⟩⟩, ⟨⟨aqw3, nqw3, cqw3⟩, ⟨aqw4, nqw4, cqw4⟩⟩⟩, rfl, hT, _, hb⟩; have hS := held_next hcur hb; have HTqw := Lib.hid hT; have HTpwl := Lib.hid (HTpw.out.later hb); clear hb hcall hcur hT) | (go_at_call 12; have hcur := (‹Below wk.heap.size wk _ ∧ _ ∧ _›).1; have hcall := reftsame_yes ⟨⟨⟨apw1, npw1, cpw1⟩, ⟨apw2, npw2, cpw2⟩⟩, ⟨⟨apw3, npw3, cpw3⟩, ⟨apw4, npw4, cpw4⟩⟩⟩ ⟨⟨⟨aqw1, nqw1, cqw1⟩, ⟨aqw2, nqw2, cqw2⟩⟩, ⟨⟨aqw3, nqw3, cqw3⟩, ⟨aqw4, nqw4, cqw4⟩⟩⟩ _ _ HTpwl.out HTqw.out; (with_reducible refine hcall.mono ?_); rintro e wn ⟨rfl, hb⟩; have hS := held_next hcur hb; clear hb hcall hcur))
        all_goals go_wp2_with fail
        all_goals go_meet
        all_goals exact ⟨rfl, (‹Below wk.heap.size wk _ ∧ _ ∧ _›).1⟩
      case rest =>
        obtain ⟨rfl, Hbd⟩ := hcut
        clear PSync RSync PTurn RTurn PWipe RWipe
        have PCut : Hid (∀ w', Below wk.heap.size wk w' → Calls Try.prog 21 #[.agg #[.slice ao1 no1 co1, .slice ao2 no2 co2, .slice ao3 no3 co3, .slice ao4 no4 co4], .int .i64 n] w' (Taped w' (TOff · ⟨⟨⟨ao1, no1, co1⟩, ⟨ao2, no2, co2⟩⟩, ⟨⟨ao3, no3, co3⟩, ⟨ao4, no4, co4⟩⟩⟩ t) (cutT t n))) := fun w' h => tCut_calls ⟨⟨⟨ao1, no1, co1⟩, ⟨ao2, no2, co2⟩⟩, ⟨⟨ao3, no3, co3⟩, ⟨ao4, no4, co4⟩⟩⟩ t n w' (HToc.out.later h) hf4.out
        have RCut : Hid (∀ w', Below wk.heap.size wk w' → Calls Try.prog 22 #[.agg #[.slice ax1 nx1 cx1, .slice ax2 nx2 cx2, .slice ax3 nx3 cx3, .slice ax4 nx4 cx4], .int .i64 n] w' (Taped w' (TOff · ⟨⟨⟨ax1, nx1, cx1⟩, ⟨ax2, nx2, cx2⟩⟩, ⟨⟨ax3, nx3, cx3⟩, ⟨ax4, nx4, cx4⟩⟩⟩ t) (cutT t n))) := fun w' h => refcut_calls ⟨⟨⟨ax1, nx1, cx1⟩, ⟨ax2, nx2, cx2⟩⟩, ⟨⟨ax3, nx3, cx3⟩, ⟨ax4, nx4, cx4⟩⟩⟩ t n w' (HTc.out.later h) hf1.out
        have PLose : Hid (∀ w', Below wk.heap.size wk w' → Calls Try.prog 23 #[.agg #[.slice ao1 no1 co1, .slice ao2 no2 co2, .slice ao3 no3 co3, .slice ao4 no4 co4], .int .i64 n] w' (Taped w' (TOff · ⟨⟨⟨ao1, no1, co1⟩, ⟨ao2, no2, co2⟩⟩, ⟨⟨ao3, no3, co3⟩, ⟨ao4, no4, co4⟩⟩⟩ t) (loseT t n))) := fun w' h => tLose_calls ⟨⟨⟨ao1, no1, co1⟩, ⟨ao2, no2, co2⟩⟩, ⟨⟨ao3, no3, co3⟩, ⟨ao4, no4, co4⟩⟩⟩ t n w' (HToc.out.later h) hf4.out
        have RLose : Hid (∀ w', Below wk.heap.size wk w' → Calls Try.prog 24 #[.agg #[.slice ax1 nx1 cx1, .slice ax2 nx2 cx2, .slice ax3 nx3 cx3, .slice ax4 nx4 cx4], .int .i64 n] w' (Taped w' (TOff · ⟨⟨⟨ax1, nx1, cx1⟩, ⟨ax2, nx2, cx2⟩⟩, ⟨⟨ax3, nx3, cx3⟩, ⟨ax4, nx4, cx4⟩⟩⟩ t) (loseT t n))) := fun w' h => reflose_calls ⟨⟨⟨ax1, nx1, cx1⟩, ⟨ax2, nx2, cx2⟩⟩, ⟨⟨ax3, nx3, cx3⟩, ⟨ax4, nx4, cx4⟩⟩⟩ t n w' (HTc.out.later h) hf1.out
        have OS : Hid (∀ w', Below wk.heap.size wk w' → Calls Try.prog 12 #[.agg #[.slice ao1 no1 co1, .slice ao2 no2 co2, .slice ao3 no3 co3, .slice ao4 no4 co4], .agg #[.slice ax1 nx1 cx1, .slice ax2 nx2 cx2, .slice ax3 nx3 cx3, .slice ax4 nx4 cx4]] w' (Says w' true)) := fun w' h => reftsame_yes ⟨⟨⟨ao1, no1, co1⟩, ⟨ao2, no2, co2⟩⟩, ⟨⟨ao3, no3, co3⟩, ⟨ao4, no4, co4⟩⟩⟩ ⟨⟨⟨ax1, nx1, cx1⟩, ⟨ax2, nx2, cx2⟩⟩, ⟨⟨ax3, nx3, cx3⟩, ⟨ax4, nx4, cx4⟩⟩⟩ t w' (HToc.out.later h) (HTc.out.later h)
        go_upto_region 12 with fail
        go_region_held3 (fun w' => Below wk.heap.size wk w' ∧ (w'.cell? ⟨gb, 0, none⟩ = some (.slice ao1 no1 co1) ∧ w'.cell? ⟨gb, 1, none⟩ = some (.slice ao2 no2 co2) ∧ w'.cell? ⟨gb, 2, none⟩ = some (.slice ao3 no3 co3) ∧ w'.cell? ⟨gb, 3, none⟩ = some (.slice ao4 no4 co4)) ∧ (w'.cell? ⟨w.heap.size, 0, none⟩ = some (.slice ax1 nx1 cx1) ∧ w'.cell? ⟨w.heap.size, 1, none⟩ = some (.slice ax2 nx2 cx2) ∧ w'.cell? ⟨w.heap.size, 2, none⟩ = some (.slice ax3 nx3 cx3) ∧ w'.cell? ⟨w.heap.size, 3, none⟩ = some (.slice ax4 nx4 cx4))) (first | exact KP.out _ Hbd.out.drew | (refine KP.out _ ?_; assumption)) (first | (go_at_call 21; have hcur := (‹Below wk.heap.size wk _ ∧ _ ∧ _›).1; have hcall := PCut.out _ hcur; (with_reducible refine hcall.mono ?_); rintro e wn ⟨⟨⟨⟨apc1, npc1, cpc1⟩, ⟨apc2, npc2, cpc2⟩⟩, ⟨⟨apc3, npc3, cpc3⟩, ⟨apc4, npc4, cpc4⟩⟩⟩, rfl, hT, _, hb⟩; have hS := held_next hcur hb; have HTpc := Lib.hid hT; clear hb hcall hcur hT) | (go_at_call 22; have hcur := (‹Below wk.heap.size wk _ ∧ _ ∧ _›).1; have hcall := RCut.out _ hcur; (with_reducible refine hcall.mono ?_); rintro e wn ⟨⟨⟨⟨aqc1, nqc1, cqc1⟩, ⟨aqc2, nqc2, cqc2⟩⟩, ⟨⟨aqc3, nqc3, cqc3⟩, ⟨aqc4, nqc4, cqc4⟩⟩⟩, rfl, hT, _, hb⟩; have hS := held_next hcur hb; have HTqc := Lib.hid hT; have HTpcl := Lib.hid (HTpc.out.later hb); clear hb hcall hcur hT) | (go_at_call 12; have hcur := (‹Below wk.heap.size wk _ ∧ _ ∧ _›).1; have hcall := reftsame_yes ⟨⟨⟨apc1, npc1, cpc1⟩, ⟨apc2, npc2, cpc2⟩⟩, ⟨⟨apc3, npc3, cpc3⟩, ⟨apc4, npc4, cpc4⟩⟩⟩ ⟨⟨⟨aqc1, nqc1, cqc1⟩, ⟨aqc2, nqc2, cqc2⟩⟩, ⟨⟨aqc3, nqc3, cqc3⟩, ⟨aqc4, nqc4, cqc4⟩⟩⟩ _ _ HTpcl.out HTqc.out; (with_reducible refine hcall.mono ?_); rintro e wn ⟨rfl, hb⟩; have hS := held_next hcur hb; clear hb hcall hcur) | (go_at_call 23; have hcur := (‹Below wk.heap.size wk _ ∧ _ ∧ _›).1; have hcall := PLose.out _ hcur; (with_reducible refine hcall.mono ?_); rintro e wn ⟨⟨⟨⟨apl1, npl1, cpl1⟩, ⟨apl2, npl2, cpl2⟩⟩, ⟨⟨apl3, npl3, cpl3⟩, ⟨apl4, npl4, cpl4⟩⟩⟩, rfl, hT, _, hb⟩; have hS := held_next hcur hb; have HTpl := Lib.hid hT; clear hb hcall hcur hT) | (go_at_call 24; have hcur := (‹Below wk.heap.size wk _ ∧ _ ∧ _›).1; have hcall := RLose.out _ hcur; (with_reducible refine hcall.mono ?_); rintro e wn ⟨⟨⟨⟨aql1, nql1, cql1⟩, ⟨aql2, nql2, cql2⟩⟩, ⟨⟨aql3, nql3, cql3⟩, ⟨aql4, nql4, cql4⟩⟩⟩, rfl, hT, _, hb⟩; have hS := held_next hcur hb; have HTql := Lib.hid hT; have HTpll := Lib.hid (HTpl.out.later hb); clear hb hcall hcur hT) | (go_at_call 12; have hcur := (‹Below wk.heap.size wk _ ∧ _ ∧ _›).1; have hcall := reftsame_yes ⟨⟨⟨apl1, npl1, cpl1⟩, ⟨apl2, npl2, cpl2⟩⟩, ⟨⟨apl3, npl3, cpl3⟩, ⟨apl4, npl4, cpl4⟩⟩⟩ ⟨⟨⟨aql1, nql1, cql1⟩, ⟨aql2, nql2, cql2⟩⟩, ⟨⟨aql3, nql3, cql3⟩, ⟨aql4, nql4, cql4⟩⟩⟩ _ _ HTpll.out HTql.out; (with_reducible refine hcall.mono ?_); rintro e wn ⟨rfl, hb⟩; have hS := held_next hcur hb; clear hb hcall hcur) | (go_at_call 12; have hcur := (‹Below wk.heap.size wk _ ∧ _ ∧ _›).1; have hcall := OS.out _ hcur; (with_reducible refine hcall.mono ?_); rintro e wn ⟨rfl, hb⟩; have hS := held_next hcur hb; clear hb hcall hcur))
        all_goals go_wp2_with fail
        all_goals go_ret
        all_goals exact ⟨by rfl, held_next Hbw.out (‹Below wk.heap.size wk _ ∧ _ ∧ _›).1⟩
end Go.Proofs.Ytokdppjpgeaiiaa
