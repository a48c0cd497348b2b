/- Merged texts: RefMailSame, RefRightsNew, MailStand, AppStill. No law is proved here. -/
import Derived.Test.YtfpadcfahfanoaaMg9
import Derived.Test.YtfpadcfahfanoaaMg28
import Derived.Test.YtfpadcfahfanoaaMg25
import Derived.LoopTactic
import Derived.BigRegion
import Derived.Test.YtfpadcfahfanoaaMg16
import Derived.Test.YtfpadcfahfanoaaRightsWords
import Derived.Test.YtfpadcfahfanoaaMg2
import Derived.WalkKit
import Derived.ProofKit
import Derived.OpenShut
import Derived.WalkSpells
import Derived.Laws.AppendOwn
import Derived.Laws.AppendOwnNone
import Derived.Laws.OwnMore
import Derived.Lib.Hide
import Derived.Deep.Draws
import Derived.Deep.Slices
import Derived.Deep.Fields
import Derived.ChangeSame
import Derived.RegionTactic
import Derived.Maps.AppendAt
import Derived.Lib.SmallJoins
import Derived.RangeFuncNested
import Derived.RangeFuncBound
import Derived.RangeFuncLeaves
import Derived.RangeFuncBox
import Derived.Laws.MakeOwn
import Derived.WalkLawsBesides
import Derived.IntWalk
import Derived.WalkSmall
import Derived.Deep.QuietTactic
import Derived.BigQuiet
import Derived.Deep.RegionHeld3
import Derived.Test.YtfpadcfahfanoaaMailTake
import Derived.Test.YtfpadcfahfanoaaMg35
import Derived.Test.YtfpadcfahfanoaaRefMailTake
import Derived.Test.YtfpadcfahfanoaaMg39
import Derived.Test.YtfpadcfahfanoaaMg10
import Derived.Test.YtfpadcfahfanoaaMg11
import Derived.Test.YtfpadcfahfanoaaAppend
/- The document's own, layer 16: the same messages? No law is proved here. -/
namespace Go.Proofs.Ytfpadcfahfanoaa
open Go.RowKit

theorem run_neq_rq3 (w : World) (t a m u b n : Int) : (binOp .neq 30 (.agg #[.int .i64 t, .int .i64 a, .int .i64 m]) (.agg #[.int .i64 u, .int .i64 b, .int .i64 n])).run Try.prog w = .ok (.bool (!decide (t = u ∧ a = b ∧ m = n))) w := by
  by_cases h1 : t = u
  · subst h1
    by_cases h2 : a = b
    · subst h2
      by_cases h3 : m = n
      · subst h3; simp [go_sem, Try.underlying30, Try.underlying28]
      · simp [go_sem, Try.underlying30, Try.underlying28, h3]
    · simp [go_sem, Try.underlying30, Try.underlying28, h2]
  · simp [go_sem, Try.underlying30, Try.underlying28, h1]
theorem run_neq_lkr (w : World) (t a u b : Int) : (binOp .neq 32 (.agg #[.int .i64 t, .int .i64 a]) (.agg #[.int .i64 u, .int .i64 b])).run Try.prog w = .ok (.bool (!decide (t = u ∧ a = b))) w := by
  by_cases h1 : t = u
  · subst h1
    by_cases h2 : a = b
    · subst h2; simp [go_sem, Try.underlying32]
    · simp [go_sem, Try.underlying32, h2]
  · simp [go_sem, Try.underlying32, h1]
/-- two messages whose lists lie there: are they the same? -/
theorem lk_ext {k l : List (Int × Int)} (h : k.length = l.length) (h2 : ∀ i, i < k.length → lkAt k i = lkAt l i) : k = l := by
  refine List.ext_getElem h fun i hi hj => ?_
  have := h2 i hi
  simpa [lkAt, List.getElem?_eq_getElem hi, List.getElem?_eq_getElem hj] using this
set_option maxRecDepth 100000 in
set_option maxHeartbeats 8000000 in
theorem refmsame_calls (x y : Ml) (a1 : Option Addr) (m1 c1 : Nat) (a2 : Option Addr) (m2 c2 : Nat) (b1 : Option Addr) (n1 d1 : Nat) (b2 : Option Addr) (n2 d2 : Nat) (w : World) (hM : MailIn w a1 m1 c1 a2 m2 c2 x) (hN : MailIn w b1 n1 d1 b2 n2 d2 y)
    (res : Bool) (hres : res = true ↔ x = y) :
    Calls Try.prog 9 #[mlV x (.slice a1 m1 c1) (.slice a2 m2 c2), mlV y (.slice b1 n1 d1) (.slice b2 n2 d2)] w (Says w res) := by
  obtain ⟨hm1, hB1, hm2, hE1⟩ := hM
  obtain ⟨hn1, hB2, hn2, hE2⟩ := hN
  have hbig1 : m2 ≤ 9223372036854775807 := by rw [hm2]; exact hE1.1
  have hbig2 : n2 ≤ 9223372036854775807 := by rw [hn2]; exact hE2.1
  have HB1 := Lib.hid hB1; clear hB1
  have HB2 := Lib.hid hB2; clear hB2
  have HE1 := Lib.hid hE1; clear hE1
  have HE2 := Lib.hid hE2; clear hE2
  have Hres := Lib.hid hres; clear hres
  have HX := Lib.hid ((Whole.made w 35 (mlCells x (.slice a1 m1 c1) (.slice a2 m2 c2))).alloc (.cells (mlCells y (.slice b1 n1 d1) (.slice b2 n2 d2)) 35))
  have HY := Lib.hid (Whole.made2 w (.cells (mlCells x (.slice a1 m1 c1) (.slice a2 m2 c2)) 35) 35 (mlCells y (.slice b1 n1 d1) (.slice b2 n2 d2)))
  have Hb0 := Lib.hid (below_two w (.cells (mlCells x (.slice a1 m1 c1) (.slice a2 m2 c2)) 35) (.cells (mlCells y (.slice b1 n1 d1) (.slice b2 n2 d2)) 35))
  obtain ⟨fr, tg, clk, rows, t, a, v, asks, try_, ph, echo⟩ := x
  obtain ⟨fr', tg', clk', rows', t', a', v', asks', try', ph', echo'⟩ := y
  have hm1' : m1 = rows.length := hm1
  have hn1' : n1 = rows'.length := hn1
  have hm2' : m2 = echo.length := hm2
  have hn2' : n2 = echo'.length := hn2
  have Hm2 := Lib.hid hm2'; have Hn2 := Lib.hid hn2'
  have hcall := fun w hA hB => refsamebooks_calls a1 m1 c1 b1 n1 d1 rows rows' hm1' hn1' w hA hB
  have Hcall := Lib.hid hcall
  clear hm1 hn1 hm2 hn2 hm1' hn1' hm2' hn2' hcall
  have hnr := fun w => run_neq_rq3 w t a v t' a' v'
  have hnl := fun w => run_neq_lkr w try_ ph try' ph'
  by_cases h1 : fr = fr'
  rotate_left 1
  · obtain rfl : res = false := by cases hr : res with | false => rfl | true => exact absurd (congrArg Ml.fr (Hres.out.1 hr)) h1
    have g1 : (fr != fr') = true := bne_iff_ne.2 h1
    go_enter Try.func9, Try.ntmps9
    go_wp2_with fail
    go_ret
    exact ⟨by rfl, Hb0.out⟩
  subst h1
  by_cases h2 : tg = tg'
  rotate_left 1
  · obtain rfl : res = false := by cases hr : res with | false => rfl | true => exact absurd (congrArg Ml.to (Hres.out.1 hr)) h2
    have g1 : (tg != tg') = true := bne_iff_ne.2 h2
    go_enter Try.func9, Try.ntmps9
    go_wp2_with fail
    go_ret
    exact ⟨by rfl, Hb0.out⟩
  subst h2
  by_cases h3 : clk = clk'
  rotate_left 1
  · obtain rfl : res = false := by cases hr : res with | false => rfl | true => exact absurd (congrArg Ml.clk (Hres.out.1 hr)) h3
    have g1 : (clk != clk') = true := bne_iff_ne.2 h3
    go_enter Try.func9, Try.ntmps9
    go_wp2_with fail
    go_ret
    exact ⟨by rfl, Hb0.out⟩
  subst h3
  go_enter Try.func9, Try.ntmps9
  go_wp2_with fail
  refine (Hcall.out _ (HB1.out.later Hb0.out) (HB2.out.later Hb0.out)).mono ?_
  rintro e w1 ⟨rfl, hb⟩
  have Hb1 := Lib.hid (held_next Hb0.out hb)
  have HX1 := Lib.hid (HX.out.later hb HX.out.lt)
  have HY1 := Lib.hid (HY.out.later hb HY.out.lt)
  clear hb
  obtain ⟨⟨M0, M1, M2, M3⟩, ⟨M4, M5, M6, M7⟩, M8, M9, M10⟩ := ml_cells' HX1.out
  obtain ⟨⟨N0, N1, N2, N3⟩, ⟨N4, N5, N6, N7⟩, N8, N9, N10⟩ := ml_cells' HY1.out
  simp only at M0 M1 M2 M3 M4 M5 M6 M7 M8 M9 M10 N0 N1 N2 N3 N4 N5 N6 N7 N8 N9 N10
  by_cases h4 : rows = rows'
  rotate_left 1
  · obtain rfl : res = false := by cases hr : res with | false => rfl | true => exact absurd (congrArg Ml.rows (Hres.out.1 hr)) h4
    rw [show sameL rows rows' = false by cases hs : sameL rows rows' with | false => rfl | true => exact absurd (sameL_eq hs) h4]
    go_wp2_with fail
    go_ret
    exact ⟨by rfl, Hb1.out⟩
  subst h4
  rw [sameL_self]
  by_cases h5 : t = t' ∧ a = a' ∧ v = v'
  rotate_left 1
  · obtain rfl : res = false := by cases hr : res with | false => rfl | true => exact absurd ⟨congrArg Ml.t (Hres.out.1 hr), congrArg Ml.a (Hres.out.1 hr), congrArg Ml.m (Hres.out.1 hr)⟩ h5
    rw [decide_eq_false h5] at hnr
    go_wp2_with fail
    go_ret
    exact ⟨by rfl, Hb1.out⟩
  rw [decide_eq_true h5] at hnr
  obtain ⟨rfl, rfl, rfl⟩ := h5
  by_cases h6 : asks = asks'
  rotate_left 1
  · obtain rfl : res = false := by cases hr : res with | false => rfl | true => exact absurd (congrArg Ml.asks (Hres.out.1 hr)) h6
    have g1 : (asks != asks') = true := bne_iff_ne.2 h6
    go_wp2_with fail
    go_ret
    exact ⟨by rfl, Hb1.out⟩
  subst h6
  by_cases h7 : try_ = try' ∧ ph = ph'
  rotate_left 1
  · obtain rfl : res = false := by cases hr : res with | false => rfl | true => exact absurd ⟨congrArg Ml.try_ (Hres.out.1 hr), congrArg Ml.ph (Hres.out.1 hr)⟩ h7
    rw [decide_eq_false h7] at hnl
    go_wp2_with fail
    go_ret
    exact ⟨by rfl, Hb1.out⟩
  rw [decide_eq_true h7] at hnl
  obtain ⟨rfl, rfl⟩ := h7
  by_cases h8 : m2 = n2
  rotate_left 1
  · obtain rfl : res = false := by cases hr : res with | false => rfl | true => exact absurd (show m2 = n2 by rw [Hm2.out, Hn2.out]; exact congrArg (fun q : Ml => q.echo.length) (Hres.out.1 hr)) h8
    have g1 : ((m2 : Int) != (n2 : Int)) = true := by simp; omega
    go_wp2_with fail
    go_ret
    exact ⟨by rfl, Hb1.out⟩
  subst h8
  go_wp2_with fail
  go_loopw [5] (fun s5 wr => ∃ k : Nat, k ≤ m2 ∧ s5 = .int .i64 (k : Int) ∧ Hid (∀ i, i < k → lkAt echo i = lkAt echo' i) ∧ Hid (Below w1.heap.size w1 wr)) (fun s5 _ => m2 - (intOf s5).toNat)
  case atStart => exact ⟨0, Nat.zero_le _, rfl, fun i hi => absurd hi (by omega), Below.refl _ _⟩
  case round =>
    obtain ⟨k, hk, rfl, Hl, Hbr⟩ := hrel
    have HXr := Lib.hid (HX1.out.later Hbr.out HX1.out.lt)
    have HYr := Lib.hid (HY1.out.later Hbr.out HY1.out.lt)
    have Hbw := Lib.hid (held_next Hb1.out Hbr.out)
    have m10 := (ml_cells' HXr.out).2.2.2.2
    have n10 := (ml_cells' HYr.out).2.2.2.2
    by_cases hkm : k < m2
    · obtain ⟨b, off, rfl, g0, g1⟩ := (HE1.out.later Hbw.out).at (i := k) (by have h : m2 = echo.length := Hm2.out; show k < echo.length; omega)
      obtain ⟨b', off', rfl, g0', g1'⟩ := (HE2.out.later Hbw.out).at (i := k) (by have h : m2 = echo'.length := Hn2.out; show k < echo'.length; omega)
      obtain ⟨y, Hy⟩ : ∃ z, Hid (lkAt echo k = z) := ⟨_, rfl⟩
      obtain ⟨z, Hz⟩ : ∃ z, Hid (lkAt echo' k = z) := ⟨_, rfl⟩
      obtain ⟨yt, yp⟩ := y
      obtain ⟨zt, zp⟩ := z
      rw [show lkAt (Ml.echo ⟨fr, tg, clk, rows, t, a, v, asks, try_, ph, echo⟩) k = (yt, yp) from Hy.out] at g0 g1
      rw [show lkAt (Ml.echo ⟨fr, tg, clk, rows, t, a, v, asks, try_, ph, echo'⟩) k = (zt, zp) from Hz.out] at g0' g1'
      simp only at g0 g1 g0' g1'
      have j0 : (0 : Int) ≤ (k : Int) := by omega
      have j1 : (k : Int) < (m2 : Int) := by omega
      have hnk := fun w => run_neq_lkr w yt yp zt zp
      by_cases he : yt = zt ∧ yp = zp
      · rw [decide_eq_true he] at hnk
        obtain ⟨rfl, rfl⟩ := he
        go_wp2_with fail
        go_region
        go_wp2_with fail
        go_roundw
        case rel => exact ⟨k + 1, by omega, by go_num, fun i hi => by
          by_cases e : i = k
          · subst e; exact Hy.out.trans Hz.out.symm
          · exact Hl.out i (by omega), Hbr.out.drew⟩
        case measure => simp [intOf]; omega
      · obtain rfl : res = false := by
          cases hr : res with
          | false => rfl
          | true =>
            have e1 : echo = echo' := congrArg Ml.echo (Hres.out.1 hr)
            have e2 : (yt, yp) = (zt, zp) := by rw [← Hy.out, ← Hz.out, e1]
            exact absurd ⟨congrArg Prod.fst e2, congrArg Prod.snd e2⟩ he
        rw [decide_eq_false he] at hnk
        go_wp2_with fail
        go_region
        go_wp2_with fail
        go_ret
        exact ⟨by rfl, Hbw.out.drew⟩
    · obtain rfl : res = true := Hres.out.2 (by
        have e1 : echo = echo' := lk_ext (by have h : m2 = echo.length := Hm2.out; have h2 : m2 = echo'.length := Hn2.out; omega) (fun i hi => Hl.out i (by have h : m2 = echo.length := Hm2.out; omega))
        rw [e1])
      go_wp2_with fail
      go_ret
      exact ⟨by rfl, Hbw.out⟩
end Go.Proofs.Ytfpadcfahfanoaa

/- The document's own, walked: new books. No law is proved here. -/
namespace Go.Proofs.Ytfpadcfahfanoaa
open Go.RowKit

attribute [local go_sem ↓] run_fine
set_option maxRecDepth 100000 in
set_option maxHeartbeats 8000000 in
theorem refnew_calls (c : Cf) (w : World) : Calls Try.prog 14 #[cfV c] w (Copied w (newL c)) := by
  have HW := Lib.hid (Whole.made w 23 (cfCells c))
  have Hb0 := Lib.hid (below_box w (.cells (cfCells c) 23))
  obtain ⟨n, q, r, p, kk, cc⟩ := c
  obtain ⟨ok, Hok⟩ : ∃ z, Hid (cfB ⟨n, q, r, p, kk, cc⟩ = z) := ⟨_, rfl⟩
  obtain ⟨i5, hi, hz0, hz1, hz2⟩ := info_parts info_row
  have Ki := Lib.hid hi; clear hi
  have Kz0 := Lib.hid hz0; clear hz0
  have Kz1 := Lib.hid hz1; clear hz1
  have Kz2 := Lib.hid hz2; clear hz2
  cases ok with
  | false =>
    have e : newL ⟨n, q, r, p, kk, cc⟩ = [] := if_neg fun h => by
      have := cfB_yes h
      rw [Hok.out] at this
      cases this
    rw [e]
    clear e
    go_enter Try.func14, Try.ntmps14
    go_wp2_with fail
    go_loopw [3, 4] (fun t i wr => t = .slice none 0 0 ∧ i = .int .i64 0 ∧ Hid (Below w.heap.size w wr) ∧ Hid (Whole wr w.heap.size 23 (cfCells ⟨n, q, r, p, kk, cc⟩))) (fun _ _ _ => 0)
    case atStart => exact ⟨rfl, rfl, Hb0.out, HW.out⟩
    case round =>
      obtain ⟨rfl, rfl, Hb, HWr⟩ := hrel
      obtain ⟨d0, d1, d2, d3, d4, d5⟩ := config_cells HWr.out
      simp only at d0 d1 d2 d3 d4 d5
      go_wp2_with fail
      refine (refcfg_calls ⟨n, q, r, p, kk, cc⟩ _).mono ?_
      rintro e w2 ⟨rfl, hb⟩
      rw [Hok.out]
      have Hb2 := Lib.hid (held_next Hb.out hb)
      clear hb d0 d1 d2 d3 d4 d5
      go_wp2_with fail
      go_ret
      exact ⟨none, 0, by rfl, ownBooks_nil _ _, Hb2.out⟩
  | true =>
    have hok := cfB_ok Hok.out
    obtain ⟨m, hmn⟩ : ∃ m : Nat, n = (m : Int) := ⟨n.toNat, by have := hok.1; simp only at this; omega⟩
    subst hmn
    have h16 : m ≤ 16 := by have := hok.2.1; simp only at this; omega
    have e : newL ⟨m, q, r, p, kk, cc⟩ = List.replicate m (zeroRow m) := by
      unfold newL
      rw [if_pos hok]; rfl
    rw [e]
    clear e hok
    have hmk : ∀ w : World, (Instr.makeSlice 52 (.int .i64 (m : Int)) (.int .i64 (m : Int))).run Try.prog w = .ok (.slice (some ⟨w.heap.size, 0, none⟩) m m) (w.alloc (.cells (madeCells #[.int .i64 0] m) 2)) := by
      intro w
      obtain ⟨i0, hi, hz0, hz1, hz2⟩ := info_parts info_int64
      have := run_make (P := Try.prog) w 52 2 i0 (.int .i64 0) Try.underlying52 hi hz0 .i64 .i64 (m : Int) (m : Int) (by omega) (by omega) (by rw [hz2]; omega) (by omega)
      simpa [hz1, show (Value.int .i64 0).cells = #[.int .i64 0] from rfl] using this
    go_enter Try.func14, Try.ntmps14
    go_wp2_with fail
    go_loopw [3, 4] (fun t i wr => ∃ (k : Nat) (tv : Value), k ≤ m ∧ t = tv ∧ i = .int .i64 k ∧ Hid (OwnBooks wr w.heap.size tv (List.replicate k (zeroRow m))) ∧ Hid (Below w.heap.size w wr) ∧ Hid (Whole wr w.heap.size 23 (cfCells ⟨m, q, r, p, kk, cc⟩))) (fun _ i _ => m - (intOf i).toNat)
    case atStart => exact ⟨0, _, Nat.zero_le _, rfl, rfl, ownBooks_nil _ _, Hb0.out, HW.out⟩
    case round =>
      obtain ⟨k, tv, hk, htv, rfl, HO, Hb, HWr⟩ := hrel
      have htv' := htv.symm
      subst htv'
      clear htv
      obtain ⟨d0, d1, d2, d3, d4, d5⟩ := config_cells HWr.out
      simp only at d0 d1 d2 d3 d4 d5
      go_wp2_with fail
      refine (refcfg_calls ⟨m, q, r, p, kk, cc⟩ _).mono ?_
      rintro e w2 ⟨rfl, hb⟩
      rw [Hok.out]
      have Hb2 := Lib.hid (held_next Hb.out hb)
      have HW2 := Lib.hid (HWr.out.later hb HWr.out.lt)
      have HO2 := Lib.hid (HO.out.later hb)
      clear hb d0 d1 d2 d3 d4 d5 HO
      have d0 : w2.cell? ⟨w.heap.size, 0, none⟩ = some (.int .i64 (m : Int)) := HW2.out.cell 0
      by_cases hlt : k < m
      · obtain ⟨g, hG⟩ := HO2.out
        have hsz := Hb2.out.size
        have hlw := HW2.out.lt
        have q1 : (w2.alloc (.cells (madeCells #[.int .i64 0] m) 2)).ownsRow w2.heap.size 2 1 (.slice (some ⟨w2.heap.size, 0, none⟩) m m) m ((zeroRow m).out.map (Value.int .i64)) := by
          have := own_whole (n := m) (sz := 1) (f := fun q _ => .int .i64 ((zeroRow m).out[q]?.getD 0)) (Whole.made w2 2 (madeCells #[.int .i64 0] m)) (Nat.le_refl _) (by rw [made_flat]; have := flat_one (zeroRow m).out; rw [show (zeroRow m).out.length = m by simp [zeroRow]] at this; exact this) (by unfold maxLen; omega)
          have e := flat_one (zeroRow m).out
          rw [show (zeroRow m).out.length = m by simp [zeroRow]] at e
          rw [e]; exact this
        have hzl : (zeroRow m).out.length = m := by simp [zeroRow]
        have hb3 : Below w2.heap.size w2 ((w2.alloc (.cells (madeCells #[.int .i64 0] m) 2)).alloc (.cells #[.int .i64 0, .int .i64 0, .slice (some ⟨w2.heap.size, 0, none⟩) m m] 59)) := below_two w2 _ _
        have hrl : (List.replicate k (zeroRow m)).length = k := by simp
        obtain ⟨v2, w3, hrun2, p1, p2, p3⟩ := run_append_elems (P := Try.prog) (w := (w2.alloc (.cells (madeCells #[.int .i64 0] m) 2)).alloc (.cells #[.int .i64 0, .int .i64 0, .slice (some ⟨w2.heap.size, 0, none⟩) m m] 59)) 26 26 w.heap.size 59 i5 _ 3 40 Try.underlying26 Ki.out Kz0.out Kz1.out Kz2.out rfl (by decide)
          _ _ _ (own_later hG.1 hb3) (some ⟨w2.heap.size + 1, 0, none⟩) 1 1 (fun _ j => if j = 0 then .int .i64 0 else if j = 1 then .int .i64 0 else .slice (some ⟨w2.heap.size, 0, none⟩) m m) (one_row (Whole.made2 w2 _ _ _))
          (fun i j _ hj => by match j, hj with | 0, _ => rfl | 1, _ => rfl | 2, _ => rfl) (by rw [hrl]; unfold maxLen; omega) (by rw [hrl]; omega) (by have := hb3.size; omega)
        obtain ⟨A2, C2, rfl, _⟩ := elems_of_own p1 (by rw [hrl]; omega)
        have hpush := ownG_push (r := zeroRow m) hG hb3 hsz (by rw [hzl]; exact own_later q1 (below_box _ _)) ⟨_, _, by rw [hzl]⟩ p1 p3.1
        have Hpush : Hid (OwnBooks w3 w.heap.size (.slice A2 ((List.replicate k (zeroRow m)).length + 1) C2) (List.replicate (k + 1) (zeroRow m))) := by
          rw [List.replicate_succ']; exact ⟨_, hpush⟩
        have Hbn : Hid (Below w.heap.size w w3) := (Hb2.out.trans (hb3.mono hsz)).trans p2
        have HWn : Hid (Whole w3 w.heap.size 23 (cfCells ⟨m, q, r, p, kk, cc⟩)) := by
          have h1 := (HW2.out.alloc (.cells (madeCells #[.int .i64 0] m) 2)).alloc (.cells #[.int .i64 0, .int .i64 0, .slice (some ⟨w2.heap.size, 0, none⟩) m m] 59)
          exact (p3.whole h1 (fun e => (h1.not_row (by decide) (own_later hG.1 hb3)) e.symm)).1
        rw [hrl] at hrun2 Hpush
        have hf2 : Fine Try.prog ((w2.alloc (.cells (madeCells #[.int .i64 0] m) 2)).alloc (.cells #[.int .i64 0, .int .i64 0, .slice (some ⟨w2.heap.size, 0, none⟩) m m] 59)) #[26, 26] 26 #[tv, .slice (some ⟨w2.heap.size + 1, 0, none⟩) 1 1] := ⟨_, _, hrun2⟩
        have hv2 : appV Try.prog ((w2.alloc (.cells (madeCells #[.int .i64 0] m) 2)).alloc (.cells #[.int .i64 0, .int .i64 0, .slice (some ⟨w2.heap.size, 0, none⟩) m m] 59)) #[26, 26] 26 #[tv, .slice (some ⟨w2.heap.size + 1, 0, none⟩) 1 1] = .slice A2 (k + 1) C2 := by unfold appV; rw [hrun2]; rfl
        have hw2 : appW Try.prog ((w2.alloc (.cells (madeCells #[.int .i64 0] m) 2)).alloc (.cells #[.int .i64 0, .int .i64 0, .slice (some ⟨w2.heap.size, 0, none⟩) m m] 59)) #[26, 26] 26 #[tv, .slice (some ⟨w2.heap.size + 1, 0, none⟩) 1 1] = w3 := by unfold appW; rw [hrun2]; rfl
        clear hrun2 q1 p1 p2 p3 hpush hb3 hG hrl hzl
        go_wp2
        go_roundw
        case rel => exact ⟨k + 1, _, by omega, rfl, by go_num, Hpush, Hbn, HWn⟩
        case measure => simp [intOf]; omega
      · have hkm : k = m := by omega
        have hO := HO2.out
        rw [hkm] at hO
        obtain ⟨A, C, rfl, _⟩ := hO.books (by simp; omega) (fun q hq => by
          rw [List.length_replicate] at hq
          simp [at_, hq, zeroRow]; omega)
        have HO3 := Lib.hid hO
        have Hkm := Lib.hid hkm
        clear hkm hO
        go_wp2
        go_ret
        refine ⟨A, C, by rw [List.length_replicate]; rfl, ?_, Hb2.out⟩
        have := HO3.out
        simpa using this
end Go.Proofs.Ytfpadcfahfanoaa

/- Package mail, walked: all of it. No law is proved here. -/

/- One byte behind bytes of the call's own: what it answers, and that those bytes stay as they were. No function of the program in it. No law is proved here. -/
namespace Go.Proofs.Ytfpadcfahfanoaa
open Go.RowKit

set_option maxRecDepth 100000 in
theorem append_still {w : World} {B g n cap : Nat} {zs : List Int} {y : Int} (hown : Fresh B 5 w (.slice (some ⟨g, 0, none⟩) n cap) zs) (hn : n = zs.length) (hcap : n ≤ cap) (hy : 0 ≤ y ∧ y < 256) (hB : B ≤ w.heap.size) {a c : Nat}
    (hone : w.cell? ⟨a, 0, none⟩ = some (.int .u8 y)) (hroom : n ≤ 1000000) :
    ∃ A C w', (Builtin.append_ #[24, 24] 24 #[.slice (some ⟨g, 0, none⟩) n cap, .slice (some ⟨a, 0, none⟩) 1 c]).run Try.prog w = .ok (.slice A (n + 1) C) w' ∧ Bytes w' (.slice A (n + 1) C) (zs ++ [y]) ∧ n + 1 ≤ C ∧ Bytes w' (.slice (some ⟨g, 0, none⟩) n cap) zs ∧ Below B w w' ∧ (∀ k, k < w.heap.size → k ≠ g → w'.heap[k]? = w.heap[k]?) ∧ w.heap.size ≤ w'.heap.size := by
  obtain ⟨i5, hi, hz0, hz1, hz2⟩ := info_parts info_u8
  have hb0 := hown.bytes
  have hsm : ∀ c ∈ zs ++ [y], 0 ≤ c ∧ c < 256 := fun x hx => by
    rcases List.mem_append.1 hx with h | h
    · exact hown.2.2 x h
    · rw [List.mem_singleton.1 h]; exact hy
  have hgB : B ≤ g := by
    obtain ⟨g', cap', e, h1, _⟩ := hown.form
    simp only [Value.slice.injEq, Option.some.injEq, Addr.mk.injEq, and_true] at e
    rw [e.1]; exact h1
  have hnews : ∀ j u, [Value.int .u8 y][j]? = some u → w.cell? ((⟨a, 0, none⟩ : Addr).add j) = some u := fun j u h => by
    match j, h with
    | 0, h => simp only [List.getElem?_cons_zero, Option.some.injEq] at h; rw [← h]; exact hone
    | j + 1, h => simp at h
  by_cases hr : n + 1 ≤ cap
  · have ho : w.ownsRow B 5 1 (.slice (some ⟨g, 0, none⟩) n cap) n (zs.map (Value.int .u8)) := by rw [hn]; have := hown.1; rw [← hn] at this ⊢; exact this
    obtain ⟨w', h1, h2, h3⟩ := run_append_fits (P := Try.prog) w B 24 24 5 i5 1 Try.underlying24 hi hz1 g n cap _ ho ⟨a, 0, none⟩ 1 c [.int .u8 y] rfl hnews (fun u hu => by rw [List.mem_singleton.1 hu]; rfl) hr
    have hbel : Below B w w' := (Below.refl B w).grown h3 hB (fun k hk => by cases hk; exact hgB)
    have h4 : w'.ownsRow B 5 1 (.slice (some ⟨g, 0, none⟩) (n + 1) cap) (n + 1) ((zs ++ [y]).map (Value.int .u8)) := by rw [List.map_append]; exact h2
    obtain ⟨g', cap', e, _, _, _, hb4⟩ := bytes_of_own h4 (fun e => by cases e) (by omega) hsm
    have hl : (zs ++ [y]).length = n + 1 := by rw [List.length_append, hn]; rfl
    refine ⟨_, _, w', h1, hb4, hr, ?_, hbel, fun k hk hne => h3.block k hk (fun e => hne (Option.some.inj e)), h3.size⟩
    obtain ⟨hz1', hz2', hz3'⟩ := hb4
    refine ⟨hb0.1, hb0.2.1, Or.inr ⟨g, 0, cap, by rw [hn], fun j hj => ?_⟩⟩
    rcases hz3' with ⟨_, _, e1, _, _⟩ | ⟨b, off, c', e1, hc⟩
    · simp at e1
    · simp only [Value.slice.injEq, Option.some.injEq, Addr.mk.injEq, and_true] at e1
      obtain ⟨⟨rfl, rfl⟩, _, _⟩ := e1
      have h5 := hc j (by rw [hl]; omega)
      rw [h5]
      congr 2
      rw [List.getD_eq_getElem?_getD, List.getD_eq_getElem?_getD, List.getElem?_append_left hj]
  · have holds : ∀ j u, (zs.map (Value.int .u8))[j]? = some u → w.cell? ((⟨g, 0, none⟩ : Addr).add j) = some u := fun j u h => by
      rw [List.getElem?_map] at h
      obtain ⟨v, hv, rfl⟩ := Option.map_eq_some_iff.1 h
      have hj : j < zs.length := (List.getElem?_eq_some_iff.1 hv).1
      rcases hb0.2.2 with ⟨_, _, e1, _, e2⟩ | ⟨b, off, c', e1, hc⟩
      · rw [e2] at hj; exact absurd hj (by simp)
      · simp only [Value.slice.injEq, Option.some.injEq, Addr.mk.injEq, and_true] at e1
        obtain ⟨⟨rfl, rfl⟩, _, _⟩ := e1
        have h5 := hc j hj
        rw [Nat.zero_add] at h5
        rw [Addr.add_lit, Nat.zero_add, h5, List.getD_eq_getElem?_getD, hv]
        rfl
    have hcap2 : cap = n := by omega
    have hrun := run_append_grow (P := Try.prog) w 24 24 5 i5 (.int .u8 0) Try.underlying24 hi hz0 ⟨g, 0, none⟩ n cap (zs.map (Value.int .u8)) (by rw [List.length_map, hz1, hn, Nat.mul_one]) holds ⟨a, 0, none⟩ 1 c [.int .u8 y] (by rw [hz1]; rfl) hnews (by omega) (by omega)
      (by rw [hz2]; have := nextslicecap_le (show cap < n + 1 by omega); omega)
    have hCn := grownCap_ge w (n + 1) cap 5
    generalize grownCap w (n + 1) cap 5 = C at hrun hCn
    have hbe : Below w.heap.size w (w.drew.alloc (.cells ((zs.map (Value.int .u8)).toArray ++ [Value.int .u8 y].toArray ++ Builtin.zeroCells (Value.int .u8 0).cells (C - (n + 1))) 5)) := ((Below.refl w.heap.size w).drew).alloc (Nat.le_refl _) _
    refine ⟨_, C, _, hrun, ?_, hCn, hb0.later hbe, hbe.mono hB, fun k hk _ => hbe.block k hk, hbe.size⟩
    refine ⟨by rw [List.length_append, List.length_singleton]; omega, hsm, Or.inr ⟨w.heap.size, 0, C, by rw [List.length_append, hn]; rfl, fun j hj => ?_⟩⟩
    rw [Nat.zero_add]
    refine cell_new w.drew _ _ _ j _ ?_
    have hjl : j < n + 1 := by rw [List.length_append, List.length_singleton] at hj; omega
    rw [Array.getElem?_append_left (by simp; omega), show (zs.map (Value.int .u8)).toArray ++ [Value.int .u8 y].toArray = ((zs ++ [y]).map (Value.int .u8)).toArray by simp, List.getElem?_toArray, List.getElem?_map, List.getD_eq_getElem?_getD, List.getElem?_eq_getElem hj]
    rfl
/-- bytes in an elder block -/
theorem bytes_low {w w' : World} {B g n c : Nat} {zs : List Int} (h : Bytes w (.slice (some ⟨g, 0, none⟩) n c) zs) (hb : ∀ k, k < B → w'.heap[k]? = w.heap[k]?) (hg : g < B) : Bytes w' (.slice (some ⟨g, 0, none⟩) n c) zs := by
  obtain ⟨h1, h2, h3⟩ := h
  refine ⟨h1, h2, ?_⟩
  rcases h3 with h3 | ⟨b, off, c', e, hc⟩
  · exact Or.inl h3
  · refine Or.inr ⟨b, off, c', e, fun j hj => ?_⟩
    simp only [Value.slice.injEq, Option.some.injEq, Addr.mk.injEq, and_true] at e
    rw [← hc j hj, ← e.1.1]
    unfold World.cell?
    simp only [hb g hg]
end Go.Proofs.Ytfpadcfahfanoaa
