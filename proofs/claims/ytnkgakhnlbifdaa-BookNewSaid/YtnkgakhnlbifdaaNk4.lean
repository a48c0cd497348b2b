/- Parts, as far as BookNewCards reaches them, of: RefBookSame, BookNil, ElemsOff, BookBox, RefRightsNew, Each. No law is proved here. -/
import Derived.Test.YtnkgakhnlbifdaaNk2
import Derived.IntWalk
import Derived.Test.YtnkgakhnlbifdaaNk3
import Derived.LoopTactic
import Derived.BigRegion
import Derived.Test.YtnkgakhnlbifdaaNk1
import Derived.Test.YtnkgakhnlbifdaaNk0
import Derived.Laws.MakeOwn
import Derived.WalkKit
import Derived.ProofKit
import Derived.OpenShut
import Derived.WalkSpells
import Derived.Laws.AppendOwn
import Derived.Laws.AppendOwnNone
import Derived.Laws.OwnMore
import Derived.Lib.Hide
import Derived.Deep.Draws
import Derived.Deep.Slices
import Derived.Deep.Fields
import Derived.ChangeSame
import Derived.RegionTactic
import Derived.Maps.AppendAt
import Derived.Lib.SmallJoins
import Derived.RangeFuncNested
import Derived.RangeFuncBound
import Derived.RangeFuncLeaves
import Derived.RangeFuncBox
import Derived.WalkLawsBesides
import Derived.WalkSmall
import Derived.Deep.QuietTactic
import Derived.BigQuiet
import Derived.Deep.RegionHeld3
import Derived.Orders
namespace Go.Proofs.Ytnkgakhnlbifdaa
open Go.RowKit
theorem run_neq_out (w : World) (t a m u b n : Int) : (binOp .neq 57 (.agg #[.int .i64 t, .int .i64 a, .int .i64 m]) (.agg #[.int .i64 u, .int .i64 b, .int .i64 n])).run Try.prog w = .ok (.bool (!decide (t = u ∧ a = b ∧ m = n))) w := by
 by_cases h1 : t = u
 · subst h1
   by_cases h2 : a = b
   · subst h2
     by_cases h3 : m = n
     · subst h3; simp [go_sem, Try.underlying57, Try.underlying55, Try.underlying37]
     · simp [go_sem, Try.underlying57, Try.underlying55, Try.underlying37, h3]
   · simp [go_sem, Try.underlying57, Try.underlying55, Try.underlying37, h2]
 · simp [go_sem, Try.underlying57, Try.underlying55, Try.underlying37, h1]
theorem rq_of {k l : List Rq} {i : Nat} {a b : Rq} (h1 : rqAt k i = a) (h2 : rqAt l i = b) (e : k = l) : a = b := by rw [← h1, ← h2, e]
theorem rq_ext {k l : List Rq} (h : k.length = l.length) (h2 : ∀ i, i < k.length → rqAt k i = rqAt l i) : k = l := by
 refine List.ext_getElem h fun i hi hj => ?_
 have := h2 i hi
 simpa [rqAt, List.getElem?_eq_getElem hi, List.getElem?_eq_getElem hj] using this
set_option maxRecDepth 100000 in
set_option maxHeartbeats 8000000 in
theorem refksame_calls (x y : Bk) (p q : Bl) (w : World) (hA : BkIn w p x) (hB : BkIn w q y) (res : Bool) (hres : res = true ↔ x = y) :
 Calls Try.prog 7 #[bkAt x p, bkAt y q] w (Says w res) := by
 obtain ⟨⟨hm1, hA1⟩, ⟨hm2, hA2⟩, ⟨hm3, hA3⟩, ⟨hm4, hA4⟩, hA5⟩ := hA
 obtain ⟨⟨hn1, hB1⟩, ⟨hn2, hB2⟩, ⟨hn3, hB3⟩, ⟨hn4, hB4⟩, hB5⟩ := hB
 obtain ⟨clk, rows, line, outs, asks, notes, au⟩ := x
 obtain ⟨clk', rows', line', outs', asks', notes', au'⟩ := y
 obtain ⟨a1, m1, c1, a2, m2, c2, a3, m3, c3, a4, m4, c4, al⟩ := p
 obtain ⟨b1, n1, d1, b2, n2, d2, b3, n3, d3, b4, n4, d4, bl⟩ := q
 have gm1 : m1 = rows.length := hm1
 have gm2 : m2 = line.length := hm2
 have gm3 : m3 = outs.length := hm3
 have gm4 : m4 = notes.length := hm4
 have gn1 : n1 = rows'.length := hn1
 have gn2 : n2 = line'.length := hn2
 have gn3 : n3 = outs'.length := hn3
 have gn4 : n4 = notes'.length := hn4
 have Hc1 := Lib.hid (fun w hA hB => refsamebooks_calls a1 m1 c1 b1 n1 d1 rows rows' gm1 gn1 w hA hB)
 have Hc2 := Lib.hid (fun w hA hB => reflinesame_calls a2 m2 c2 b2 n2 d2 line line' gm2 gn2 w hA hB)
 have Hc4 := Lib.hid (fun w hA hB => refntsame_calls a4 m4 c4 b4 n4 d4 notes notes' gm4 gn4 w hA hB)
 have r3 : m3 ≤ 9223372036854775807 := by rw [gm3]; exact hA3.1
 have s3 : n3 ≤ 9223372036854775807 := by rw [gn3]; exact hB3.1
 have HA1 := Lib.hid hA1; have HA2 := Lib.hid hA2; have HA3 := Lib.hid hA3; have HA4 := Lib.hid hA4; have HA5 := Lib.hid hA5
 have HB1 := Lib.hid hB1; have HB2 := Lib.hid hB2; have HB3 := Lib.hid hB3; have HB4 := Lib.hid hB4; have HB5 := Lib.hid hB5
 have Hm3 := Lib.hid gm3; have Hn3 := Lib.hid gn3
 have HX0 := Lib.hid ((Whole.made w 36 (bkAtC ⟨clk, rows, line, outs, asks, notes, au⟩ ⟨a1, m1, c1, a2, m2, c2, a3, m3, c3, a4, m4, c4, al⟩)).alloc (.cells (bkAtC ⟨clk', rows', line', outs', asks', notes', au'⟩ ⟨b1, n1, d1, b2, n2, d2, b3, n3, d3, b4, n4, d4, bl⟩) 36))
 have HY0 := Lib.hid (Whole.made2 w (.cells (bkAtC ⟨clk, rows, line, outs, asks, notes, au⟩ ⟨a1, m1, c1, a2, m2, c2, a3, m3, c3, a4, m4, c4, al⟩) 36) 36 (bkAtC ⟨clk', rows', line', outs', asks', notes', au'⟩ ⟨b1, n1, d1, b2, n2, d2, b3, n3, d3, b4, n4, d4, bl⟩))
 have Hb0 := Lib.hid (below_two w (.cells (bkAtC ⟨clk, rows, line, outs, asks, notes, au⟩ ⟨a1, m1, c1, a2, m2, c2, a3, m3, c3, a4, m4, c4, al⟩) 36) (.cells (bkAtC ⟨clk', rows', line', outs', asks', notes', au'⟩ ⟨b1, n1, d1, b2, n2, d2, b3, n3, d3, b4, n4, d4, bl⟩) 36))
 have Hres := Lib.hid hres
 clear hres hA1 hA2 hA3 hA4 hA5 hB1 hB2 hB3 hB4 hB5 hm1 hm2 hm3 hm4 hn1 hn2 hn3 hn4 gm1 gm2 gm3 gm4 gn1 gn2 gn3 gn4
 obtain ⟨⟨z0, z1, z2, z3⟩, ⟨z4, z5, z6, z7⟩, z8, z9, z10, z11⟩ := bk_cells HX0.out
 obtain ⟨⟨y0, y1, y2, y3⟩, ⟨y4, y5, y6, y7⟩, y8, y9, y10, y11⟩ := bk_cells HY0.out
 simp only at z0 z1 z2 z3 z4 z5 z6 z7 z8 z9 z10 z11 y0 y1 y2 y3 y4 y5 y6 y7 y8 y9 y10 y11
 by_cases h1 : clk = clk'
 rotate_left 1
 · have g1 : (clk != clk') = true := bne_iff_ne.2 h1
   obtain rfl : res = false := by cases hr : res with | false => rfl | true => exact absurd (congrArg Bk.clk (Hres.out.1 hr)) h1
   go_enter Try.func7, Try.ntmps7
   go_wp2_with fail
   go_ret
   exact ⟨by rfl, Hb0.out⟩
 have Hk1 := Lib.hid h1
 subst h1
 go_enter Try.func7, Try.ntmps7
 go_wp2_with fail
 refine (Hc1.out _ (HA1.out.later Hb0.out) (HB1.out.later Hb0.out)).mono ?_
 rintro e w1 ⟨rfl, hb⟩
 have Hb1 := Lib.hid (held_next Hb0.out hb)
 have HX1 := Lib.hid (HX0.out.later hb HX0.out.lt)
 have HY1 := Lib.hid (HY0.out.later hb HY0.out.lt)
 clear hb
 clear z0 z1 z2 z3 z4 z5 z6 z7 z8 z9 z10 z11 y0 y1 y2 y3 y4 y5 y6 y7 y8 y9 y10 y11
 obtain ⟨⟨z0, z1, z2, z3⟩, ⟨z4, z5, z6, z7⟩, z8, z9, z10, z11⟩ := bk_cells HX1.out
 obtain ⟨⟨y0, y1, y2, y3⟩, ⟨y4, y5, y6, y7⟩, y8, y9, y10, y11⟩ := bk_cells HY1.out
 simp only at z0 z1 z2 z3 z4 z5 z6 z7 z8 z9 z10 z11 y0 y1 y2 y3 y4 y5 y6 y7 y8 y9 y10 y11
 by_cases h2 : rows = rows'
 rotate_left 1
 · obtain rfl : res = false := by cases hr : res with | false => rfl | true => exact absurd (congrArg Bk.rows (Hres.out.1 hr)) h2
   rw [show sameL rows rows' = false by cases hs : sameL rows rows' with | false => rfl | true => exact absurd (sameL_eq hs) h2]
   go_wp2_with fail
   go_ret
   exact ⟨by rfl, Hb1.out⟩
 rw [show sameL rows rows' = true by rw [h2]; exact sameL_self _]
 have Hk2 := Lib.hid h2
 clear h2
 go_wp2_with fail
 refine (Hc2.out _ (HA2.out.later Hb1.out) (HB2.out.later Hb1.out)).mono ?_
 rintro e w2 ⟨rfl, hb⟩
 have Hb2 := Lib.hid (held_next Hb1.out hb)
 have HX2 := Lib.hid (HX1.out.later hb HX1.out.lt)
 have HY2 := Lib.hid (HY1.out.later hb HY1.out.lt)
 clear hb
 clear z0 z1 z2 z3 z4 z5 z6 z7 z8 z9 z10 z11 y0 y1 y2 y3 y4 y5 y6 y7 y8 y9 y10 y11
 obtain ⟨⟨z0, z1, z2, z3⟩, ⟨z4, z5, z6, z7⟩, z8, z9, z10, z11⟩ := bk_cells HX2.out
 obtain ⟨⟨y0, y1, y2, y3⟩, ⟨y4, y5, y6, y7⟩, y8, y9, y10, y11⟩ := bk_cells HY2.out
 simp only at z0 z1 z2 z3 z4 z5 z6 z7 z8 z9 z10 z11 y0 y1 y2 y3 y4 y5 y6 y7 y8 y9 y10 y11
 by_cases h3 : line = line'
 rotate_left 1
 · obtain rfl : res = false := by cases hr : res with | false => rfl | true => exact absurd (congrArg Bk.line (Hres.out.1 hr)) h3
   rw [show sameQ line line' = false from decide_eq_false h3]
   go_wp2_with fail
   go_ret
   exact ⟨by rfl, Hb2.out⟩
 rw [show sameQ line line' = true from decide_eq_true h3]
 have Hk3 := Lib.hid h3
 clear h3
 by_cases h4 : m3 = n3
 rotate_left 1
 · obtain rfl : res = false := by cases hr : res with | false => rfl | true => exact absurd (congrArg Bk.outs (Hres.out.1 hr)) (fun e : outs = outs' => h4 (Hm3.out.trans ((congrArg List.length e).trans Hn3.out.symm)))
   have e1 : ((m3 : Int) != (n3 : Int)) = true := by simp; omega
   go_wp2_with fail
   go_ret
   exact ⟨by rfl, Hb2.out⟩
 have e1 : ((m3 : Int) != (n3 : Int)) = false := by simp; omega
 have Hk4 := Lib.hid h4
 clear h4
 by_cases h5 : asks = asks'
 rotate_left 1
 · obtain rfl : res = false := by cases hr : res with | false => rfl | true => exact absurd (congrArg Bk.asks (Hres.out.1 hr)) h5
   have e2 : (asks != asks') = true := bne_iff_ne.2 h5
   go_wp2_with fail
   go_ret
   exact ⟨by rfl, Hb2.out⟩
 have e2 : (asks != asks') = false := by simp [h5]
 have Hk5 := Lib.hid h5
 clear h5
 go_wp2_with fail
 go_loopw [5] (fun s wr => ∃ k : Nat, k ≤ m3 ∧ s = .int .i64 (k : Int) ∧ Hid (∀ q, q < k → rqAt outs q = rqAt outs' q) ∧ Hid (Below w.heap.size w wr) ∧ Hid (Whole wr w.heap.size 36 (bkAtC ⟨clk, rows, line, outs, asks, notes, au⟩ ⟨a1, m1, c1, a2, m2, c2, a3, m3, c3, a4, m4, c4, al⟩)) ∧ Hid (Whole wr (w.heap.size + 1) 36 (bkAtC ⟨clk, rows', line', outs', asks', notes', au'⟩ ⟨b1, n1, d1, b2, n2, d2, b3, n3, d3, b4, n4, d4, bl⟩))) (fun s _ => m3 - (intOf s).toNat)
 case atStart => exact ⟨0, Nat.zero_le _, rfl, fun q hq => absurd hq (Nat.not_lt_zero _), Hb2.out, HX2.out, HY2.out⟩
 case round =>
  clear z0 z1 z2 z3 z4 z5 z6 z7 z8 z9 z10 z11 y0 y1 y2 y3 y4 y5 y6 y7 y8 y9 y10 y11
  obtain ⟨k, hk, rfl, Hl, Hb3, HX3, HY3⟩ := hrel
  obtain ⟨⟨z0, z1, z2, z3⟩, ⟨z4, z5, z6, z7⟩, z8, z9, z10, z11⟩ := bk_cells HX3.out
  obtain ⟨⟨y0, y1, y2, y3⟩, ⟨y4, y5, y6, y7⟩, y8, y9, y10, y11⟩ := bk_cells HY3.out
  simp only at z0 z1 z2 z3 z4 z5 z6 z7 z8 z9 z10 z11 y0 y1 y2 y3 y4 y5 y6 y7 y8 y9 y10 y11
  by_cases hlt : k < m3
  · obtain ⟨g1, o1, rfl, u0, u1, u2⟩ := HA3.out.at (i := k) (by have h5 : m3 = outs.length := Hm3.out; omega)
    obtain ⟨g2, o2, rfl, v0, v1, v2⟩ := HB3.out.at (i := k) (by have h5 : n3 = outs'.length := Hn3.out; have := Hk4.out; omega)
    obtain ⟨u, Hu⟩ : ∃ t, Hid (rqAt outs k = t) := ⟨_, Lib.hid rfl⟩
    obtain ⟨v, Hv⟩ : ∃ t, Hid (rqAt outs' k = t) := ⟨_, Lib.hid rfl⟩
    replace u0 := cell_later Hb3.out u0
    rw [Hu.out] at u0
    replace u1 := cell_later Hb3.out u1
    rw [Hu.out] at u1
    replace u2 := cell_later Hb3.out u2
    rw [Hu.out] at u2
    replace v0 := cell_later Hb3.out v0
    rw [Hv.out] at v0
    replace v1 := cell_later Hb3.out v1
    rw [Hv.out] at v1
    replace v2 := cell_later Hb3.out v2
    rw [Hv.out] at v2
    obtain ⟨ut, ua, um⟩ := u
    obtain ⟨vt, va, vm⟩ := v
    simp only at u0 u1 u2 v0 v1 v2
    have k0 : (0 : Int) ≤ (k : Int) := by omega
    have k1' : (k : Int) < (m3 : Int) := by omega
    have k2' : (k : Int) < (n3 : Int) := by have := Hk4.out; omega
    have hne := fun W => run_neq_out W ut ua um vt va vm
    by_cases huv : ut = vt ∧ ua = va ∧ um = vm
    · rw [decide_eq_true huv] at hne
      have Huv := Lib.hid huv
      clear huv
      go_wp2_with fail
      go_region
      all_goals go_wp2_with fail
      go_roundw
      case rel => exact ⟨k + 1, by omega, by go_num, (fun q hq => by
       by_cases e : q = k
       · subst e; rw [Hu.out, Hv.out, Huv.out.1, Huv.out.2.1, Huv.out.2.2]
       · exact Hl.out q (by omega)), Hb3.out.drew, HX3.out.drew, HY3.out.drew⟩
      case measure => simp [intOf]; omega
    · obtain rfl : res = false := by cases hr : res with | false => rfl | true => exact absurd (congrArg Bk.outs (Hres.out.1 hr)) (fun e : outs = outs' => huv (by have h9 := rq_of Hu.out Hv.out e; simp only [Rq.mk.injEq] at h9; exact h9))
      rw [decide_eq_false huv] at hne
      clear huv
      go_wp2_with fail
      go_region
      all_goals go_wp2_with fail
      go_ret
      exact ⟨by rfl, Hb3.out.drew⟩
  · have hkm : k = m3 := by omega
    have He : Hid (outs = outs') := rq_ext (by have h5 : m3 = outs.length := Hm3.out; have h6 : n3 = outs'.length := Hn3.out; have := Hk4.out; omega) (fun q hq => Hl.out q (by have h5 : m3 = outs.length := Hm3.out; omega))
    have Hkm := Lib.hid hkm
    clear hkm
    go_wp2_with fail
    refine (Hc4.out _ (HA4.out.later Hb3.out) (HB4.out.later Hb3.out)).mono ?_
    rintro e w4 ⟨rfl, hb⟩
    have Hb4 := Lib.hid (held_next Hb3.out hb)
    have HX4 := Lib.hid (HX3.out.later hb HX3.out.lt)
    have HY4 := Lib.hid (HY3.out.later hb HY3.out.lt)
    clear hb z0 z1 z2 z3 z4 z5 z6 z7 z8 z9 z10 z11 y0 y1 y2 y3 y4 y5 y6 y7 y8 y9 y10 y11
    obtain ⟨⟨z0, z1, z2, z3⟩, ⟨z4, z5, z6, z7⟩, z8, z9, z10, z11⟩ := bk_cells HX4.out
    obtain ⟨⟨y0, y1, y2, y3⟩, ⟨y4, y5, y6, y7⟩, y8, y9, y10, y11⟩ := bk_cells HY4.out
    simp only at z0 z1 z2 z3 z4 z5 z6 z7 z8 z9 z10 z11 y0 y1 y2 y3 y4 y5 y6 y7 y8 y9 y10 y11
    by_cases h6 : notes = notes'
    rotate_left 1
    · obtain rfl : res = false := by cases hr : res with | false => rfl | true => exact absurd (congrArg Bk.notes (Hres.out.1 hr)) h6
      rw [show sameNt notes notes' = false from decide_eq_false h6]
      go_wp2_with fail
      go_ret
      exact ⟨by rfl, Hb4.out⟩
    rw [show sameNt notes notes' = true from decide_eq_true h6]
    have Hk6 := Lib.hid h6
    clear h6
    have Hc5 := Lib.hid (refausame_calls au au' al bl _ (HA5.out.later Hb4.out) (HB5.out.later Hb4.out) res (by
     rw [Hres.out]
     refine ⟨fun e => congrArg Bk.au e, fun e => ?_⟩
     rw [Hk2.out, Hk3.out, He.out, Hk5.out, Hk6.out, e]))
    obtain ⟨a5, m5, c5, a6, m6, c6, a7, m7, c7⟩ := al
    obtain ⟨b5, n5, d5, b6, n6, d6, b7, n7, d7⟩ := bl
    obtain ⟨tr, ph, told, use, inc, mv⟩ := au
    obtain ⟨tr', ph', told', use', inc', mv'⟩ := au'
    simp only at z6 z7 z8 z9 z10 z11 y6 y7 y8 y9 y10 y11
    go_wp2_with fail
    refine Hc5.out.mono ?_
    rintro e w5 ⟨rfl, hb⟩
    have Hb5 := Lib.hid (held_next Hb4.out hb)
    clear hb
    go_wp2_with fail
    go_ret
    exact ⟨by simp, Hb5.out⟩
end Go.Proofs.Ytnkgakhnlbifdaa
namespace Go.Proofs.Ytnkgakhnlbifdaa
open Go.RowKit
abbrev bl0 : Bl := ⟨none, 0, 0, none, 0, 0, none, 0, 0, none, 0, 0, ⟨none, 0, 0, none, 0, 0, none, 0, 0⟩⟩
theorem nums_nil' (w : World) : Nums w (.slice none 0 0) [] := elems_nil w none 0 1 _ (fun _ => rfl)
theorem bools_nil' (w : World) : Bools w (.slice none 0 0) [] := elems_nil w none 0 1 _ (fun _ => rfl)
theorem notes_nil' (w : World) : Notes w (.slice none 0 0) [] := elems_nil w none 0 7 _ (fun _ => rfl)
theorem au_in0 (w : World) : AuIn w ⟨none, 0, 0, none, 0, 0, none, 0, 0⟩ au0 := ⟨⟨rfl, bools_nil' w⟩, ⟨rfl, nums_nil' w⟩, rfl, nums_nil' w⟩
theorem bk_in0 (w : World) : BkIn w bl0 bk0 := ⟨⟨rfl, books_nil _ _ _ (fun _ => rfl)⟩, ⟨rfl, Line.nil _ _ _ (fun _ => rfl)⟩, ⟨rfl, Line.nil _ _ _ (fun _ => rfl)⟩, ⟨rfl, notes_nil' w⟩, au_in0 w⟩
end Go.Proofs.Ytnkgakhnlbifdaa
namespace Go.Proofs.Ytnkgakhnlbifdaa
open Go.ChangeShapes Go.WideShapes Go.ChangeAt Go.RowKit
theorem Elems.other {w : World} {A : Option Addr} {c sz n : Nat} {f : Nat → Nat → Value} (h : Elems w (.slice A n c) sz n f) {p : Addr} (hp : ∀ ad, A = some ad → ad.block ≠ p.block) (u : Value) : Elems (w.setCell p u) (.slice A n c) sz n f := by
 refine ⟨h.1, ?_⟩
 obtain ⟨_, h2 | ⟨b, off, cap, hv, hn, hcell⟩⟩ := h
 · exact Or.inl h2
 · refine Or.inr ⟨b, off, cap, hv, hn, fun i j hi hj => ?_⟩
   simp only [Value.slice.injEq] at hv
   have hb : b ≠ p.block := hp _ hv.1
   rw [← hcell i j hi hj]
   unfold World.cell?
   rw [Below.heap_setCell w p u b hb]
end Go.Proofs.Ytnkgakhnlbifdaa
namespace Go.Proofs.Ytnkgakhnlbifdaa
open Go.RowKit
def bk12 (wx : World) (g : Nat) (x : Bk) (rv lv ov nv tv uv iv : Value) : World := (((((((((((wx.setCell ⟨g, 0, none⟩ (.int .i64 x.clk)).setCell ⟨g, 1, none⟩ rv).setCell ⟨g, 2, none⟩ lv).setCell ⟨g, 3, none⟩ ov).setCell ⟨g, 4, none⟩ (.int .i64 x.asks)).setCell ⟨g, 5, none⟩ nv).setCell ⟨g, 6, none⟩ (.int .i64 x.au.try_)).setCell ⟨g, 7, none⟩ (.int .i64 x.au.ph)).setCell ⟨g, 8, none⟩ tv).setCell ⟨g, 9, none⟩ uv).setCell ⟨g, 10, none⟩ iv).setCell ⟨g, 11, none⟩ (.bool x.au.moved)
theorem bk12_below {B : Nat} {w0 wx : World} {g : Nat} {x : Bk} {rv lv ov nv tv uv iv : Value} (h : Below B w0 wx) (hg : B ≤ g) : Below B w0 (bk12 wx g x rv lv ov nv tv uv iv) := (((((((((((h.setCell (p := ⟨g, 0, none⟩) hg _).setCell (p := ⟨g, 1, none⟩) hg _).setCell (p := ⟨g, 2, none⟩) hg _).setCell (p := ⟨g, 3, none⟩) hg _).setCell (p := ⟨g, 4, none⟩) hg _).setCell (p := ⟨g, 5, none⟩) hg _).setCell (p := ⟨g, 6, none⟩) hg _).setCell (p := ⟨g, 7, none⟩) hg _).setCell (p := ⟨g, 8, none⟩) hg _).setCell (p := ⟨g, 9, none⟩) hg _).setCell (p := ⟨g, 10, none⟩) hg _).setCell (p := ⟨g, 11, none⟩) hg _
theorem bk12_cells (x y : Bk) (rv lv ov nv tv uv iv rv' lv' ov' nv' tv' uv' iv' : Value) : ((((((((((((bkCells y rv' lv' ov' nv' tv' uv' iv').setIfInBounds 0 (.int .i64 x.clk)).setIfInBounds 1 rv).setIfInBounds 2 lv).setIfInBounds 3 ov).setIfInBounds 4 (.int .i64 x.asks)).setIfInBounds 5 nv).setIfInBounds 6 (.int .i64 x.au.try_)).setIfInBounds 7 (.int .i64 x.au.ph)).setIfInBounds 8 tv).setIfInBounds 9 uv).setIfInBounds 10 iv).setIfInBounds 11 (.bool x.au.moved) = bkCells x rv lv ov nv tv uv iv := by
 simp only [bkCells, List.setIfInBounds_toArray, List.set_cons_zero, List.set_cons_succ]
theorem bk12_whole {wx : World} {g : Nat} {x y : Bk} {rv lv ov nv tv uv iv rv' lv' ov' nv' tv' uv' iv' : Value} (h : Whole wx g 36 (bkCells y rv' lv' ov' nv' tv' uv' iv')) : Whole (bk12 wx g x rv lv ov nv tv uv iv) g 36 (bkCells x rv lv ov nv tv uv iv) := by
 have h1 := (((((((((((h.set 0 (.int .i64 x.clk)).set 1 rv).set 2 lv).set 3 ov).set 4 (.int .i64 x.asks)).set 5 nv).set 6 (.int .i64 x.au.try_)).set 7 (.int .i64 x.au.ph)).set 8 tv).set 9 uv).set 10 iv).set 11 (.bool x.au.moved)
 rw [bk12_cells] at h1
 exact h1
theorem bk12_elems {wx : World} {g sz n c : Nat} {A : Option Addr} {f : Nat → Nat → Value} {x : Bk} {rv lv ov nv tv uv iv : Value} (h : Elems wx (.slice A n c) sz n f) (hg : ∀ ad, A = some ad → ad.block ≠ g) : Elems (bk12 wx g x rv lv ov nv tv uv iv) (.slice A n c) sz n f := (((((((((((h.other (p := ⟨g, 0, none⟩) hg _).other (p := ⟨g, 1, none⟩) hg _).other (p := ⟨g, 2, none⟩) hg _).other (p := ⟨g, 3, none⟩) hg _).other (p := ⟨g, 4, none⟩) hg _).other (p := ⟨g, 5, none⟩) hg _).other (p := ⟨g, 6, none⟩) hg _).other (p := ⟨g, 7, none⟩) hg _).other (p := ⟨g, 8, none⟩) hg _).other (p := ⟨g, 9, none⟩) hg _).other (p := ⟨g, 10, none⟩) hg _).other (p := ⟨g, 11, none⟩) hg _
theorem bk12_notes {wx : World} {g n c : Nat} {A : Option Addr} {l : List Nt} {x : Bk} {rv lv ov nv tv uv iv : Value} (h : Notes wx (.slice A n c) l) (hn : n = l.length) (hg : ∀ ad, A = some ad → ad.block ≠ g) : Notes (bk12 wx g x rv lv ov nv tv uv iv) (.slice A n c) l := by
 subst hn
 exact bk12_elems h hg
theorem OwnBooks.low {w : World} {base : Nat} {v : Value} {l : List Rw} (h : OwnBooks w base v l) {p : Addr} (hp : p.block < base) (u : Value) : OwnBooks (w.setCell p u) base v l := by
 obtain ⟨g, h1, h2, h3⟩ := h
 exact ⟨g, h1.kept (grownBy_set w p u) (.inr fun e => by have := (h1.lt _ e).1; omega), fun k hk => ⟨(h2 k hk).1, (h2 k hk).2.kept (grownBy_set w p u) (.inr fun e => by have := ((h2 k hk).2.lt _ e).1; omega)⟩, h3⟩
theorem bk12_own {w : World} {base g : Nat} {v : Value} {l : List Rw} {x : Bk} {rv lv ov nv tv uv iv : Value} (h : OwnBooks w base v l) (hg : g < base) : OwnBooks (bk12 w g x rv lv ov nv tv uv iv) base v l := (((((((((((h.low (p := ⟨g, 0, none⟩) hg _).low (p := ⟨g, 1, none⟩) hg _).low (p := ⟨g, 2, none⟩) hg _).low (p := ⟨g, 3, none⟩) hg _).low (p := ⟨g, 4, none⟩) hg _).low (p := ⟨g, 5, none⟩) hg _).low (p := ⟨g, 6, none⟩) hg _).low (p := ⟨g, 7, none⟩) hg _).low (p := ⟨g, 8, none⟩) hg _).low (p := ⟨g, 9, none⟩) hg _).low (p := ⟨g, 10, none⟩) hg _).low (p := ⟨g, 11, none⟩) hg _
theorem info_note17 : (Try.prog.info? 70).map (fun i => (i.zero, i.size, i.bytes)) = some (some (.agg #[.int .i64 0, .int .i64 0, .int .i64 0, .int .i64 0, .int .i64 0, .int .i64 0, .int .i64 0]), 7, 56) := by kernel_rfl
abbrev zero7 : Array Value := #[.int .i64 0, .int .i64 0, .int .i64 0, .int .i64 0, .int .i64 0, .int .i64 0, .int .i64 0]
theorem made_note {m j : Nat} (h : j < m * 7) : (madeCells zero7 (m * 7))[j]? = some (.int .i64 0) := by
 unfold madeCells
 rw [Array.getElem?_map, Array.getElem?_range, if_pos h]
 show some (zero7[j % 7]!) = _
 have hj : j % 7 < 7 := Nat.mod_lt _ (by decide)
 generalize j % 7 = k at hj
 match k, hj with
 | 0, _ => rfl
 | 1, _ => rfl
 | 2, _ => rfl
 | 3, _ => rfl
 | 4, _ => rfl
 | 5, _ => rfl
 | 6, _ => rfl
theorem run_make_notes {w : World} {m : Nat} (h16 : m ≤ 1000) : (Instr.makeSlice 28 (.int .i64 (m : Int)) (.int .i64 (m : Int))).run Try.prog w = .ok (.slice (some ⟨w.heap.size, 0, none⟩) m m) (w.alloc (.cells (madeCells zero7 (m * 7)) 70)) := by
 obtain ⟨i0, hi, hz0, hz1, hz2⟩ := info_parts info_note17
 have := run_make (P := Try.prog) w 28 70 i0 (.agg zero7) Try.underlying28 hi hz0 .i64 .i64 (m : Int) (m : Int) (by omega) (by omega) (by rw [hz2]; omega) (by omega)
 simpa [hz1, show (Value.agg zero7).cells = zero7 from rfl] using this
theorem notes_zero {w : World} {m g : Nat} (hm : m ≤ 1000) (h : Whole w g 70 (madeCells zero7 (m * 7))) : Notes w (.slice (some ⟨g, 0, none⟩) m m) (List.replicate m nt0) := by
 refine ⟨by rw [List.length_replicate]; omega, Or.inr ⟨g, 0, m, by rw [List.length_replicate], by rw [List.length_replicate]; exact Nat.le_refl _, fun i j hi hj => ?_⟩⟩
 rw [List.length_replicate] at hi
 rw [h.cell, Nat.zero_add, made_note (by omega)]
 have e : ntAt (List.replicate m nt0) i = nt0 := by unfold ntAt; rw [List.getElem?_replicate, if_pos hi]; rfl
 show _ = some (ntc (ntAt (List.replicate m nt0) i) j)
 rw [e]
 unfold ntc
 simp only [ite_self]
end Go.Proofs.Ytnkgakhnlbifdaa
namespace Go.Proofs.Ytnkgakhnlbifdaa
open Go.RowKit
attribute [local go_sem ↓] run_fine
set_option maxRecDepth 100000 in
set_option maxHeartbeats 8000000 in
theorem refnew_calls (c : Cf) (w : World) : Calls Try.prog 15 #[cfV c] w (Copied w (newL c)) := by
 have HW := Lib.hid (Whole.made w 23 (cfCells c))
 have Hb0 := Lib.hid (below_box w (.cells (cfCells c) 23))
 obtain ⟨n, q, r, p, kk, cc⟩ := c
 obtain ⟨ok, Hok⟩ : ∃ z, Hid (cfB ⟨n, q, r, p, kk, cc⟩ = z) := ⟨_, rfl⟩
 obtain ⟨i5, hi, hz0, hz1, hz2⟩ := info_parts info_row
 have Ki := Lib.hid hi; clear hi
 have Kz0 := Lib.hid hz0; clear hz0
 have Kz1 := Lib.hid hz1; clear hz1
 have Kz2 := Lib.hid hz2; clear hz2
 cases ok with
 | false =>
   have e : newL ⟨n, q, r, p, kk, cc⟩ = [] := if_neg fun h => by
    have := cfB_yes h
    rw [Hok.out] at this
    cases this
   rw [e]
   clear e
   go_enter Try.func15, Try.ntmps15
   go_wp2_with fail
   go_loopw [3, 4] (fun t i wr => t = .slice none 0 0 ∧ i = .int .i64 0 ∧ Hid (Below w.heap.size w wr) ∧ Hid (Whole wr w.heap.size 23 (cfCells ⟨n, q, r, p, kk, cc⟩))) (fun _ _ _ => 0)
   case atStart => exact ⟨rfl, rfl, Hb0.out, HW.out⟩
   case round =>
    obtain ⟨rfl, rfl, Hb, HWr⟩ := hrel
    obtain ⟨d0, d1, d2, d3, d4, d5⟩ := config_cells HWr.out
    simp only at d0 d1 d2 d3 d4 d5
    go_wp2_with fail
    refine (refcfg_calls ⟨n, q, r, p, kk, cc⟩ _).mono ?_
    rintro e w2 ⟨rfl, hb⟩
    rw [Hok.out]
    have Hb2 := Lib.hid (held_next Hb.out hb)
    clear hb d0 d1 d2 d3 d4 d5
    go_wp2_with fail
    go_ret
    exact ⟨none, 0, by rfl, ownBooks_nil _ _, Hb2.out⟩
 | true =>
   have hok := cfB_ok Hok.out
   obtain ⟨m, hmn⟩ : ∃ m : Nat, n = (m : Int) := ⟨n.toNat, by have := hok.1; simp only at this; omega⟩
   subst hmn
   have h16 : m ≤ 16 := by have := hok.2.1; simp only at this; omega
   have e : newL ⟨m, q, r, p, kk, cc⟩ = List.replicate m (zeroRow m) := by
    unfold newL
    rw [if_pos hok]; rfl
   rw [e]
   clear e hok
   have hmk : ∀ w : World, (Instr.makeSlice 32 (.int .i64 (m : Int)) (.int .i64 (m : Int))).run Try.prog w = .ok (.slice (some ⟨w.heap.size, 0, none⟩) m m) (w.alloc (.cells (madeCells #[.int .i64 0] m) 2)) := by
    intro w
    obtain ⟨i0, hi, hz0, hz1, hz2⟩ := info_parts info_int64
    have := run_make (P := Try.prog) w 32 2 i0 (.int .i64 0) Try.underlying32 hi hz0 .i64 .i64 (m : Int) (m : Int) (by omega) (by omega) (by rw [hz2]; omega) (by omega)
    simpa [hz1, show (Value.int .i64 0).cells = #[.int .i64 0] from rfl] using this
   go_enter Try.func15, Try.ntmps15
   go_wp2_with fail
   go_loopw [3, 4] (fun t i wr => ∃ (k : Nat) (tv : Value), k ≤ m ∧ t = tv ∧ i = .int .i64 k ∧ Hid (OwnBooks wr w.heap.size tv (List.replicate k (zeroRow m))) ∧ Hid (Below w.heap.size w wr) ∧ Hid (Whole wr w.heap.size 23 (cfCells ⟨m, q, r, p, kk, cc⟩))) (fun _ i _ => m - (intOf i).toNat)
   case atStart => exact ⟨0, _, Nat.zero_le _, rfl, rfl, ownBooks_nil _ _, Hb0.out, HW.out⟩
   case round =>
    obtain ⟨k, tv, hk, htv, rfl, HO, Hb, HWr⟩ := hrel
    have htv' := htv.symm
    subst htv'
    clear htv
    obtain ⟨d0, d1, d2, d3, d4, d5⟩ := config_cells HWr.out
    simp only at d0 d1 d2 d3 d4 d5
    go_wp2_with fail
    refine (refcfg_calls ⟨m, q, r, p, kk, cc⟩ _).mono ?_
    rintro e w2 ⟨rfl, hb⟩
    rw [Hok.out]
    have Hb2 := Lib.hid (held_next Hb.out hb)
    have HW2 := Lib.hid (HWr.out.later hb HWr.out.lt)
    have HO2 := Lib.hid (HO.out.later hb)
    clear hb d0 d1 d2 d3 d4 d5 HO
    have d0 : w2.cell? ⟨w.heap.size, 0, none⟩ = some (.int .i64 (m : Int)) := HW2.out.cell 0
    by_cases hlt : k < m
    · obtain ⟨g, hG⟩ := HO2.out
      have hsz := Hb2.out.size
      have hlw := HW2.out.lt
      have q1 : (w2.alloc (.cells (madeCells #[.int .i64 0] m) 2)).ownsRow w2.heap.size 2 1 (.slice (some ⟨w2.heap.size, 0, none⟩) m m) m ((zeroRow m).out.map (Value.int .i64)) := by
       have := own_whole (n := m) (sz := 1) (f := fun q _ => .int .i64 ((zeroRow m).out[q]?.getD 0)) (Whole.made w2 2 (madeCells #[.int .i64 0] m)) (Nat.le_refl _) (by rw [made_flat]; have := flat_one (zeroRow m).out; rw [show (zeroRow m).out.length = m by simp [zeroRow]] at this; exact this) (by unfold maxLen; omega)
       have e := flat_one (zeroRow m).out
       rw [show (zeroRow m).out.length = m by simp [zeroRow]] at e
       rw [e]; exact this
      have hzl : (zeroRow m).out.length = m := by simp [zeroRow]
      have hb3 : Below w2.heap.size w2 ((w2.alloc (.cells (madeCells #[.int .i64 0] m) 2)).alloc (.cells #[.int .i64 0, .int .i64 0, .slice (some ⟨w2.heap.size, 0, none⟩) m m] 83)) := below_two w2 _ _
      have hrl : (List.replicate k (zeroRow m)).length = k := by simp
      obtain ⟨v2, w3, hrun2, p1, p2, p3⟩ := run_append_elems (P := Try.prog) (w := (w2.alloc (.cells (madeCells #[.int .i64 0] m) 2)).alloc (.cells #[.int .i64 0, .int .i64 0, .slice (some ⟨w2.heap.size, 0, none⟩) m m] 83)) 25 25 w.heap.size 83 i5 _ 3 40 Try.underlying25 Ki.out Kz0.out Kz1.out Kz2.out rfl (by decide)
       _ _ _ (own_later hG.1 hb3) (some ⟨w2.heap.size + 1, 0, none⟩) 1 1 (fun _ j => if j = 0 then .int .i64 0 else if j = 1 then .int .i64 0 else .slice (some ⟨w2.heap.size, 0, none⟩) m m) (one_row (Whole.made2 w2 _ _ _))
       (fun i j _ hj => by match j, hj with | 0, _ => rfl | 1, _ => rfl | 2, _ => rfl) (by rw [hrl]; unfold maxLen; omega) (by rw [hrl]; omega) (by have := hb3.size; omega)
      obtain ⟨A2, C2, rfl, _⟩ := elems_of_own p1 (by rw [hrl]; omega)
      have hpush := ownG_push (r := zeroRow m) hG hb3 hsz (by rw [hzl]; exact own_later q1 (below_box _ _)) ⟨_, _, by rw [hzl]⟩ p1 p3.1
      have Hpush : Hid (OwnBooks w3 w.heap.size (.slice A2 ((List.replicate k (zeroRow m)).length + 1) C2) (List.replicate (k + 1) (zeroRow m))) := by
       rw [List.replicate_succ']; exact ⟨_, hpush⟩
      have Hbn : Hid (Below w.heap.size w w3) := (Hb2.out.trans (hb3.mono hsz)).trans p2
      have HWn : Hid (Whole w3 w.heap.size 23 (cfCells ⟨m, q, r, p, kk, cc⟩)) := by
       have h1 := (HW2.out.alloc (.cells (madeCells #[.int .i64 0] m) 2)).alloc (.cells #[.int .i64 0, .int .i64 0, .slice (some ⟨w2.heap.size, 0, none⟩) m m] 83)
       exact (p3.whole h1 (fun e => (h1.not_row (by decide) (own_later hG.1 hb3)) e.symm)).1
      rw [hrl] at hrun2 Hpush
      have hf2 : Fine Try.prog ((w2.alloc (.cells (madeCells #[.int .i64 0] m) 2)).alloc (.cells #[.int .i64 0, .int .i64 0, .slice (some ⟨w2.heap.size, 0, none⟩) m m] 83)) #[25, 25] 25 #[tv, .slice (some ⟨w2.heap.size + 1, 0, none⟩) 1 1] := ⟨_, _, hrun2⟩
      have hv2 : appV Try.prog ((w2.alloc (.cells (madeCells #[.int .i64 0] m) 2)).alloc (.cells #[.int .i64 0, .int .i64 0, .slice (some ⟨w2.heap.size, 0, none⟩) m m] 83)) #[25, 25] 25 #[tv, .slice (some ⟨w2.heap.size + 1, 0, none⟩) 1 1] = .slice A2 (k + 1) C2 := by unfold appV; rw [hrun2]; rfl
      have hw2 : appW Try.prog ((w2.alloc (.cells (madeCells #[.int .i64 0] m) 2)).alloc (.cells #[.int .i64 0, .int .i64 0, .slice (some ⟨w2.heap.size, 0, none⟩) m m] 83)) #[25, 25] 25 #[tv, .slice (some ⟨w2.heap.size + 1, 0, none⟩) 1 1] = w3 := by unfold appW; rw [hrun2]; rfl
      clear hrun2 q1 p1 p2 p3 hpush hb3 hG hrl hzl
      go_wp2
      go_roundw
      case rel => exact ⟨k + 1, _, by omega, rfl, by go_num, Hpush, Hbn, HWn⟩
      case measure => simp [intOf]; omega
    · have hkm : k = m := by omega
      have hO := HO2.out
      rw [hkm] at hO
      obtain ⟨A, C, rfl, _⟩ := hO.books (by simp; omega) (fun q hq => by
       rw [List.length_replicate] at hq
       simp [at_, hq, zeroRow]; omega)
      have HO3 := Lib.hid hO
      have Hkm := Lib.hid hkm
      clear hkm hO
      go_wp2
      go_ret
      refine ⟨A, C, by rw [List.length_replicate]; rfl, ?_, Hb2.out⟩
      have := HO3.out
      simpa using this
end Go.Proofs.Ytnkgakhnlbifdaa
namespace Go.Proofs.Ytnkgakhnlbifdaa
open Go
section
variable {P : Program} {ops : Array Oper} {Q : Exit → Act → World → Prop}
def backward (ops : Array Oper) : Bool := (List.range ops.size).all fun i => match ops[i]? with
 | some o => o.after.all fun e => !Region.binds .any e || decide (e.on < i)
 | none => true
def waitsFor (ops : Array Oper) (i : Nat) : List Nat := match ops[i]? with
 | some o => (o.after.toList.filter (Region.binds .any)).map (·.on)
 | none => []
def oneMore (d : Nat → Bool) (i : Nat) : Nat → Bool := fun k => k == i || d k
theorem oneMore_same (d : Nat → Bool) (i : Nat) : oneMore d i i = true := by simp [oneMore]
theorem oneMore_other {d : Nat → Bool} {i k : Nat} (h : k ≠ i) : oneMore d i k = d k := by simp [oneMore, h]
def still (n : Nat) (d : Nat → Bool) : Nat := ((List.range n).filter fun k => !d k).length
theorem still_more {n : Nat} {d : Nat → Bool} {i : Nat} (hi : i < n) (hd : d i = false) : still n (oneMore d i) < still n d := by
 unfold still
 induction n with
 | zero => omega
 | succ n ih =>
   rw [List.range_succ, List.filter_append, List.filter_append, List.length_append, List.length_append]
   by_cases h : i = n
   · subst h
     have e1 : (List.range i).filter (fun k => !oneMore d i k) = (List.range i).filter (fun k => !d k) := by
      apply List.filter_congr
      intro k hk
      rw [oneMore_other (by have := List.mem_range.1 hk; omega)]
     rw [e1]
     simp [oneMore_same, hd]
   · have := ih (by omega)
     have e2 : [n].filter (fun k => !oneMore d i k) = [n].filter (fun k => !d k) := by
      apply List.filter_congr
      intro k hk
      rw [oneMore_other (by have := List.mem_singleton.1 hk; omega)]
     rw [e2]
     omega
theorem wpAny_each (hb : backward ops = true) (J : (Nat → Bool) → Act → World → Prop)
 (hstep : ∀ (i : Nat) (d : Nat → Bool) (a : Act) (w : World), i < ops.size → J d a w → d i = false → (∀ k ∈ waitsFor ops i, d k = true) → wpOp P ops Q i (fun a' w' => J (oneMore d i) a' w') a w)
 (hend : ∀ (d : Nat → Bool) (a : Act) (w : World), J d a w → (∀ i, i < ops.size → d i = true) → Q .normal a w) :
 ∀ (fuel : Nat) (listed : Array Bool) (d : Nat → Bool) (a : Act) (w : World), listed.size = ops.size → (∀ i, i < ops.size → listed[i]? = some (d i)) → still ops.size d ≤ fuel → J d a w → wpAny P .any ops Q fuel listed a w := by
 intro fuel
 induction fuel with
 | zero =>
   intro listed d a w hs hl hf hJ
   have hall : ∀ i, i < ops.size → d i = true := by
    intro i hi
    cases h : d i with
    | true => rfl
    | false =>
      have hlen : 0 < ((List.range ops.size).filter fun k => !d k).length := List.length_pos_of_mem (a := i) (List.mem_filter.2 ⟨List.mem_range.2 hi, by simp [h]⟩)
      unfold still at hf
      omega
   refine ⟨?_, hend d a w hJ hall⟩
   by_cases hr : Region.ready .any ops listed = []
   · exact hr
   · obtain ⟨j, hj⟩ := List.exists_mem_of_ne_nil _ hr
     obtain ⟨h1, o, ho, _⟩ := mem_ready.1 hj
     have hjs : j < ops.size := (Array.getElem?_eq_some_iff.1 ho).1
     rw [Array.getD_eq_getD_getElem?, hl j hjs, hall j hjs] at h1
     simp at h1
 | succ fuel ih =>
   intro listed d a w hs hl hf hJ
   refine ⟨fun hr => hend d a w hJ ?_, fun i hi => ?_⟩
   · intro i
     induction i using Nat.strongRecOn with
     | ind i ihi =>
       intro hi
       cases h : d i with
       | true => rfl
       | false =>
         have : i ∈ Region.ready .any ops listed := by
          refine mem_ready.2 ⟨by rw [Array.getD_eq_getD_getElem?, hl i hi, h]; rfl, ops[i], Array.getElem?_eq_getElem hi, fun e he hbe => ?_⟩
          have hlt : e.on < i := by
           have h2 := List.all_eq_true.1 hb i (List.mem_range.2 hi)
           simp only [Array.getElem?_eq_getElem hi] at h2
           have h3 := Array.all_eq_true_iff_forall_mem.1 h2 e he
           rw [hbe, Bool.not_true, Bool.false_or] at h3
           exact of_decide_eq_true h3
          have := ihi e.on hlt (by omega)
          rw [Array.getD_eq_getD_getElem?, hl e.on (by omega), this]; rfl
         rw [hr] at this
         cases this
   · obtain ⟨h1, o, ho, hdep⟩ := mem_ready.1 hi
     have his : i < ops.size := (Array.getElem?_eq_some_iff.1 ho).1
     have hdi : d i = false := by
      rw [Array.getD_eq_getD_getElem?, hl i his] at h1
      simpa using h1
     refine wpOp_mono (fun a' w' hJ' => ih (listed.setIfInBounds i true) (oneMore d i) a' w' (by simpa using hs) ?_ ?_ hJ') (hstep i d a w his hJ hdi ?_)
     · intro k hk
       by_cases e : k = i
       · subst e
         rw [oneMore_same, Array.getElem?_setIfInBounds_self_of_lt (by omega)]
       · rw [oneMore_other e, Array.getElem?_setIfInBounds_ne (fun h => e h.symm)]
         exact hl k hk
     · have := still_more his hdi
       omega
     · intro k hk
       unfold waitsFor at hk
       rw [ho] at hk
       obtain ⟨e, he, rfl⟩ := List.mem_map.1 hk
       obtain ⟨he1, he2⟩ := List.mem_filter.1 he
       have h3 := hdep e (Array.mem_toList_iff.1 he1) he2
       have hes : e.on < ops.size := by
        have h2 := List.all_eq_true.1 hb i (List.mem_range.2 his)
        simp only [ho] at h2
        have h3 := Array.all_eq_true_iff_forall_mem.1 h2 e (Array.mem_toList_iff.1 he1)
        rw [he2, Bool.not_true, Bool.false_or] at h3
        have := of_decide_eq_true h3
        omega
       rw [Array.getD_eq_getD_getElem?, hl e.on hes] at h3
       simpa using h3
theorem wp_region_each {id : Nat} {a : Act} {w : World} (hm : P.follows .mixedOrders = true) (hb : backward ops = true) (J : (Nat → Bool) → Act → World → Prop) (h0 : J (fun _ => false) a w.drew)
 (hstep : ∀ (i : Nat) (d : Nat → Bool) (a : Act) (w : World), i < ops.size → J d a w → d i = false → (∀ k ∈ waitsFor ops i, d k = true) → wpOp P ops Q i (fun a' w' => J (oneMore d i) a' w') a w)
 (hend : ∀ (d : Nat → Bool) (a : Act) (w : World), J d a w → (∀ i, i < ops.size → d i = true) → Q .normal a w) : (Code.region id ops true).wp P Q a w := by
 refine wp_region_any hm (wpAny_each hb J hstep hend ops.size _ (fun _ => false) a _ (by simp) (fun i hi => by simp [hi]) ?_ h0)
 exact Nat.le_trans (List.length_filter_le _ _) (by simp)
theorem wp_region_each_at {id : Nat} {a : Act} {w : World} (hm : P.follows .mixedOrders = true) (hb : backward ops = true) (J : Act → (Nat → Bool) → Act → World → Prop) (h0 : J a (fun _ => false) a w.drew)
 (hstep : ∀ (i : Nat) (d : Nat → Bool) (a' : Act) (w' : World), i < ops.size → J a d a' w' → d i = false → (∀ k ∈ waitsFor ops i, d k = true) → wpOp P ops Q i (fun a'' w'' => J a (oneMore d i) a'' w'') a' w')
 (hend : ∀ (d : Nat → Bool) (a' : Act) (w' : World), J a d a' w' → (∀ i, i < ops.size → d i = true) → Q .normal a' w') : (Code.region id ops true).wp P Q a w :=
 wp_region_each hm hb (J a) h0 hstep hend
theorem wpOp_at {i : Nat} {o : Oper} {rest : List Oper} {K : Act → World → Prop} {a : Act} {w : World} (ho : ops.toList.drop i = o :: rest)
 (h : ∀ K' : Act → World → Prop, (∀ a w, K a w → K' a w) → if Region.wanted o (yielded ops a.tmps) = true then Oper.wp P o a w K' Q else K' (a.put o.dst undef) w) : wpOp P ops Q i K a w := by
 refine wpOp_step (o := o) ?_ h
 have h1 : (ops.toList.drop i)[0]? = ops.toList[i]? := by rw [List.getElem?_drop, Nat.add_zero]
 rw [ho] at h1
 rw [← Array.getElem?_toList, ← h1]; rfl
def putAll (a : Act) : List (Nat × Value) → Act
 | [] => a
 | (k, v) :: l => putAll (a.put (some k) v) l
end
end Go.Proofs.Ytnkgakhnlbifdaa
