/- Parts, as far as BookTakesCards reaches them, of: RefBookSame, ApartV, OwnLow, ElemsOff, BookBox, NumsPlain, NumsPush. No law is proved here. -/
import Derived.Test.YtnkgakhnlbifdaaGreatTb2
import Derived.IntWalk
import Derived.Test.YtnkgakhnlbifdaaGreatTb3
import Derived.LoopTactic
import Derived.BigRegion
import Derived.Test.YtnkgakhnlbifdaaGreatTb1
import Derived.Test.YtnkgakhnlbifdaaGreatTb0
import Derived.Laws.MakeOwn
import Derived.Test.YtnkgakhnlbifdaaGreatTbQ
import Derived.OwnWalk
import Derived.Lib.SmallJoins
namespace Go.Proofs.YtnkgakhnlbifdaaGreat
open Go.RowKit
theorem run_neq_out (w : World) (t a m u b n : Int) : (binOp .neq 69 (.agg #[.int .i64 t, .int .i64 a, .int .i64 m]) (.agg #[.int .i64 u, .int .i64 b, .int .i64 n])).run Tryz.prog w = .ok (.bool (!decide (t = u ∧ a = b ∧ m = n))) w := by
 by_cases h1 : t = u
 · subst h1
   by_cases h2 : a = b
   · subst h2
     by_cases h3 : m = n
     · subst h3; simp [go_sem, Tryz.underlying69, Tryz.underlying65, Tryz.underlying49]
     · simp [go_sem, Tryz.underlying69, Tryz.underlying65, Tryz.underlying49, h3]
   · simp [go_sem, Tryz.underlying69, Tryz.underlying65, Tryz.underlying49, h2]
 · simp [go_sem, Tryz.underlying69, Tryz.underlying65, Tryz.underlying49, h1]
theorem rq_of {k l : List Rq} {i : Nat} {a b : Rq} (h1 : rqAt k i = a) (h2 : rqAt l i = b) (e : k = l) : a = b := by rw [← h1, ← h2, e]
theorem rq_ext {k l : List Rq} (h : k.length = l.length) (h2 : ∀ i, i < k.length → rqAt k i = rqAt l i) : k = l := by
 refine List.ext_getElem h fun i hi hj => ?_
 have := h2 i hi
 simpa [rqAt, List.getElem?_eq_getElem hi, List.getElem?_eq_getElem hj] using this
set_option maxRecDepth 100000 in
set_option maxHeartbeats 8000000 in
theorem refksame_calls (x y : Bk) (p q : Bl) (w : World) (hA : BkIn w p x) (hB : BkIn w q y) (res : Bool) (hres : res = true ↔ x = y) :
 Calls Tryz.prog 9 #[bkAt x p, bkAt y q] w (Says w res) := by
 obtain ⟨⟨hm1, hA1⟩, ⟨hm2, hA2⟩, ⟨hm3, hA3⟩, ⟨hm4, hA4⟩, hA5⟩ := hA
 obtain ⟨⟨hn1, hB1⟩, ⟨hn2, hB2⟩, ⟨hn3, hB3⟩, ⟨hn4, hB4⟩, hB5⟩ := hB
 obtain ⟨clk, rows, line, outs, asks, notes, au⟩ := x
 obtain ⟨clk', rows', line', outs', asks', notes', au'⟩ := y
 obtain ⟨a1, m1, c1, a2, m2, c2, a3, m3, c3, a4, m4, c4, al⟩ := p
 obtain ⟨b1, n1, d1, b2, n2, d2, b3, n3, d3, b4, n4, d4, bl⟩ := q
 have gm1 : m1 = rows.length := hm1
 have gm2 : m2 = line.length := hm2
 have gm3 : m3 = outs.length := hm3
 have gm4 : m4 = notes.length := hm4
 have gn1 : n1 = rows'.length := hn1
 have gn2 : n2 = line'.length := hn2
 have gn3 : n3 = outs'.length := hn3
 have gn4 : n4 = notes'.length := hn4
 have Hc1 := Lib.hid (fun w hA hB => refsamebooks_calls a1 m1 c1 b1 n1 d1 rows rows' gm1 gn1 w hA hB)
 have Hc2 := Lib.hid (fun w hA hB => reflinesame_calls a2 m2 c2 b2 n2 d2 line line' gm2 gn2 w hA hB)
 have Hc4 := Lib.hid (fun w hA hB => refntsame_calls a4 m4 c4 b4 n4 d4 notes notes' gm4 gn4 w hA hB)
 have r3 : m3 ≤ 9223372036854775807 := by rw [gm3]; exact hA3.1
 have s3 : n3 ≤ 9223372036854775807 := by rw [gn3]; exact hB3.1
 have HA1 := Lib.hid hA1; have HA2 := Lib.hid hA2; have HA3 := Lib.hid hA3; have HA4 := Lib.hid hA4; have HA5 := Lib.hid hA5
 have HB1 := Lib.hid hB1; have HB2 := Lib.hid hB2; have HB3 := Lib.hid hB3; have HB4 := Lib.hid hB4; have HB5 := Lib.hid hB5
 have Hm3 := Lib.hid gm3; have Hn3 := Lib.hid gn3
 have HX0 := Lib.hid ((Whole.made w 37 (bkAtC ⟨clk, rows, line, outs, asks, notes, au⟩ ⟨a1, m1, c1, a2, m2, c2, a3, m3, c3, a4, m4, c4, al⟩)).alloc (.cells (bkAtC ⟨clk', rows', line', outs', asks', notes', au'⟩ ⟨b1, n1, d1, b2, n2, d2, b3, n3, d3, b4, n4, d4, bl⟩) 37))
 have HY0 := Lib.hid (Whole.made2 w (.cells (bkAtC ⟨clk, rows, line, outs, asks, notes, au⟩ ⟨a1, m1, c1, a2, m2, c2, a3, m3, c3, a4, m4, c4, al⟩) 37) 37 (bkAtC ⟨clk', rows', line', outs', asks', notes', au'⟩ ⟨b1, n1, d1, b2, n2, d2, b3, n3, d3, b4, n4, d4, bl⟩))
 have Hb0 := Lib.hid (below_two w (.cells (bkAtC ⟨clk, rows, line, outs, asks, notes, au⟩ ⟨a1, m1, c1, a2, m2, c2, a3, m3, c3, a4, m4, c4, al⟩) 37) (.cells (bkAtC ⟨clk', rows', line', outs', asks', notes', au'⟩ ⟨b1, n1, d1, b2, n2, d2, b3, n3, d3, b4, n4, d4, bl⟩) 37))
 have Hres := Lib.hid hres
 clear hres hA1 hA2 hA3 hA4 hA5 hB1 hB2 hB3 hB4 hB5 hm1 hm2 hm3 hm4 hn1 hn2 hn3 hn4 gm1 gm2 gm3 gm4 gn1 gn2 gn3 gn4
 obtain ⟨⟨z0, z1, z2, z3⟩, ⟨z4, z5, z6, z7⟩, z8, z9, z10, z11⟩ := bk_cells HX0.out
 obtain ⟨⟨y0, y1, y2, y3⟩, ⟨y4, y5, y6, y7⟩, y8, y9, y10, y11⟩ := bk_cells HY0.out
 simp only at z0 z1 z2 z3 z4 z5 z6 z7 z8 z9 z10 z11 y0 y1 y2 y3 y4 y5 y6 y7 y8 y9 y10 y11
 by_cases h1 : clk = clk'
 rotate_left 1
 · have g1 : (clk != clk') = true := bne_iff_ne.2 h1
   obtain rfl : res = false := by cases hr : res with | false => rfl | true => exact absurd (congrArg Bk.clk (Hres.out.1 hr)) h1
   go_enter Tryz.func9, Tryz.ntmps9
   go_wp2_with fail
   go_ret
   exact ⟨by rfl, Hb0.out⟩
 have Hk1 := Lib.hid h1
 subst h1
 go_enter Tryz.func9, Tryz.ntmps9
 go_wp2_with fail
 refine (Hc1.out _ (HA1.out.later Hb0.out) (HB1.out.later Hb0.out)).mono ?_
 rintro e w1 ⟨rfl, hb⟩
 have Hb1 := Lib.hid (held_next Hb0.out hb)
 have HX1 := Lib.hid (HX0.out.later hb HX0.out.lt)
 have HY1 := Lib.hid (HY0.out.later hb HY0.out.lt)
 clear hb
 clear z0 z1 z2 z3 z4 z5 z6 z7 z8 z9 z10 z11 y0 y1 y2 y3 y4 y5 y6 y7 y8 y9 y10 y11
 obtain ⟨⟨z0, z1, z2, z3⟩, ⟨z4, z5, z6, z7⟩, z8, z9, z10, z11⟩ := bk_cells HX1.out
 obtain ⟨⟨y0, y1, y2, y3⟩, ⟨y4, y5, y6, y7⟩, y8, y9, y10, y11⟩ := bk_cells HY1.out
 simp only at z0 z1 z2 z3 z4 z5 z6 z7 z8 z9 z10 z11 y0 y1 y2 y3 y4 y5 y6 y7 y8 y9 y10 y11
 by_cases h2 : rows = rows'
 rotate_left 1
 · obtain rfl : res = false := by cases hr : res with | false => rfl | true => exact absurd (congrArg Bk.rows (Hres.out.1 hr)) h2
   rw [show sameL rows rows' = false by cases hs : sameL rows rows' with | false => rfl | true => exact absurd (sameL_eq hs) h2]
   go_wp2_with fail
   go_ret
   exact ⟨by rfl, Hb1.out⟩
 rw [show sameL rows rows' = true by rw [h2]; exact sameL_self _]
 have Hk2 := Lib.hid h2
 clear h2
 go_wp2_with fail
 refine (Hc2.out _ (HA2.out.later Hb1.out) (HB2.out.later Hb1.out)).mono ?_
 rintro e w2 ⟨rfl, hb⟩
 have Hb2 := Lib.hid (held_next Hb1.out hb)
 have HX2 := Lib.hid (HX1.out.later hb HX1.out.lt)
 have HY2 := Lib.hid (HY1.out.later hb HY1.out.lt)
 clear hb
 clear z0 z1 z2 z3 z4 z5 z6 z7 z8 z9 z10 z11 y0 y1 y2 y3 y4 y5 y6 y7 y8 y9 y10 y11
 obtain ⟨⟨z0, z1, z2, z3⟩, ⟨z4, z5, z6, z7⟩, z8, z9, z10, z11⟩ := bk_cells HX2.out
 obtain ⟨⟨y0, y1, y2, y3⟩, ⟨y4, y5, y6, y7⟩, y8, y9, y10, y11⟩ := bk_cells HY2.out
 simp only at z0 z1 z2 z3 z4 z5 z6 z7 z8 z9 z10 z11 y0 y1 y2 y3 y4 y5 y6 y7 y8 y9 y10 y11
 by_cases h3 : line = line'
 rotate_left 1
 · obtain rfl : res = false := by cases hr : res with | false => rfl | true => exact absurd (congrArg Bk.line (Hres.out.1 hr)) h3
   rw [show sameQ line line' = false from decide_eq_false h3]
   go_wp2_with fail
   go_ret
   exact ⟨by rfl, Hb2.out⟩
 rw [show sameQ line line' = true from decide_eq_true h3]
 have Hk3 := Lib.hid h3
 clear h3
 by_cases h4 : m3 = n3
 rotate_left 1
 · obtain rfl : res = false := by cases hr : res with | false => rfl | true => exact absurd (congrArg Bk.outs (Hres.out.1 hr)) (fun e : outs = outs' => h4 (Hm3.out.trans ((congrArg List.length e).trans Hn3.out.symm)))
   have e1 : ((m3 : Int) != (n3 : Int)) = true := by simp; omega
   go_wp2_with fail
   go_ret
   exact ⟨by rfl, Hb2.out⟩
 have e1 : ((m3 : Int) != (n3 : Int)) = false := by simp; omega
 have Hk4 := Lib.hid h4
 clear h4
 by_cases h5 : asks = asks'
 rotate_left 1
 · obtain rfl : res = false := by cases hr : res with | false => rfl | true => exact absurd (congrArg Bk.asks (Hres.out.1 hr)) h5
   have e2 : (asks != asks') = true := bne_iff_ne.2 h5
   go_wp2_with fail
   go_ret
   exact ⟨by rfl, Hb2.out⟩
 have e2 : (asks != asks') = false := by simp [h5]
 have Hk5 := Lib.hid h5
 clear h5
 go_wp2_with fail
 go_loopw [5] (fun s wr => ∃ k : Nat, k ≤ m3 ∧ s = .int .i64 (k : Int) ∧ Hid (∀ q, q < k → rqAt outs q = rqAt outs' q) ∧ Hid (Below w.heap.size w wr) ∧ Hid (Whole wr w.heap.size 37 (bkAtC ⟨clk, rows, line, outs, asks, notes, au⟩ ⟨a1, m1, c1, a2, m2, c2, a3, m3, c3, a4, m4, c4, al⟩)) ∧ Hid (Whole wr (w.heap.size + 1) 37 (bkAtC ⟨clk, rows', line', outs', asks', notes', au'⟩ ⟨b1, n1, d1, b2, n2, d2, b3, n3, d3, b4, n4, d4, bl⟩))) (fun s _ => m3 - (intOf s).toNat)
 case atStart => exact ⟨0, Nat.zero_le _, rfl, fun q hq => absurd hq (Nat.not_lt_zero _), Hb2.out, HX2.out, HY2.out⟩
 case round =>
  clear z0 z1 z2 z3 z4 z5 z6 z7 z8 z9 z10 z11 y0 y1 y2 y3 y4 y5 y6 y7 y8 y9 y10 y11
  obtain ⟨k, hk, rfl, Hl, Hb3, HX3, HY3⟩ := hrel
  obtain ⟨⟨z0, z1, z2, z3⟩, ⟨z4, z5, z6, z7⟩, z8, z9, z10, z11⟩ := bk_cells HX3.out
  obtain ⟨⟨y0, y1, y2, y3⟩, ⟨y4, y5, y6, y7⟩, y8, y9, y10, y11⟩ := bk_cells HY3.out
  simp only at z0 z1 z2 z3 z4 z5 z6 z7 z8 z9 z10 z11 y0 y1 y2 y3 y4 y5 y6 y7 y8 y9 y10 y11
  by_cases hlt : k < m3
  · obtain ⟨g1, o1, rfl, u0, u1, u2⟩ := HA3.out.at (i := k) (by have h5 : m3 = outs.length := Hm3.out; omega)
    obtain ⟨g2, o2, rfl, v0, v1, v2⟩ := HB3.out.at (i := k) (by have h5 : n3 = outs'.length := Hn3.out; have := Hk4.out; omega)
    obtain ⟨u, Hu⟩ : ∃ t, Hid (rqAt outs k = t) := ⟨_, Lib.hid rfl⟩
    obtain ⟨v, Hv⟩ : ∃ t, Hid (rqAt outs' k = t) := ⟨_, Lib.hid rfl⟩
    replace u0 := cell_later Hb3.out u0
    rw [Hu.out] at u0
    replace u1 := cell_later Hb3.out u1
    rw [Hu.out] at u1
    replace u2 := cell_later Hb3.out u2
    rw [Hu.out] at u2
    replace v0 := cell_later Hb3.out v0
    rw [Hv.out] at v0
    replace v1 := cell_later Hb3.out v1
    rw [Hv.out] at v1
    replace v2 := cell_later Hb3.out v2
    rw [Hv.out] at v2
    obtain ⟨ut, ua, um⟩ := u
    obtain ⟨vt, va, vm⟩ := v
    simp only at u0 u1 u2 v0 v1 v2
    have k0 : (0 : Int) ≤ (k : Int) := by omega
    have k1' : (k : Int) < (m3 : Int) := by omega
    have k2' : (k : Int) < (n3 : Int) := by have := Hk4.out; omega
    have hne := fun W => run_neq_out W ut ua um vt va vm
    by_cases huv : ut = vt ∧ ua = va ∧ um = vm
    · rw [decide_eq_true huv] at hne
      have Huv := Lib.hid huv
      clear huv
      go_wp2_with fail
      go_region
      all_goals go_wp2_with fail
      go_roundw
      case rel => exact ⟨k + 1, by omega, by go_num, (fun q hq => by
       by_cases e : q = k
       · subst e; rw [Hu.out, Hv.out, Huv.out.1, Huv.out.2.1, Huv.out.2.2]
       · exact Hl.out q (by omega)), Hb3.out.drew, HX3.out.drew, HY3.out.drew⟩
      case measure => simp [intOf]; omega
    · obtain rfl : res = false := by cases hr : res with | false => rfl | true => exact absurd (congrArg Bk.outs (Hres.out.1 hr)) (fun e : outs = outs' => huv (by have h9 := rq_of Hu.out Hv.out e; simp only [Rq.mk.injEq] at h9; exact h9))
      rw [decide_eq_false huv] at hne
      clear huv
      go_wp2_with fail
      go_region
      all_goals go_wp2_with fail
      go_ret
      exact ⟨by rfl, Hb3.out.drew⟩
  · have hkm : k = m3 := by omega
    have He : Hid (outs = outs') := rq_ext (by have h5 : m3 = outs.length := Hm3.out; have h6 : n3 = outs'.length := Hn3.out; have := Hk4.out; omega) (fun q hq => Hl.out q (by have h5 : m3 = outs.length := Hm3.out; omega))
    have Hkm := Lib.hid hkm
    clear hkm
    go_wp2_with fail
    refine (Hc4.out _ (HA4.out.later Hb3.out) (HB4.out.later Hb3.out)).mono ?_
    rintro e w4 ⟨rfl, hb⟩
    have Hb4 := Lib.hid (held_next Hb3.out hb)
    have HX4 := Lib.hid (HX3.out.later hb HX3.out.lt)
    have HY4 := Lib.hid (HY3.out.later hb HY3.out.lt)
    clear hb z0 z1 z2 z3 z4 z5 z6 z7 z8 z9 z10 z11 y0 y1 y2 y3 y4 y5 y6 y7 y8 y9 y10 y11
    obtain ⟨⟨z0, z1, z2, z3⟩, ⟨z4, z5, z6, z7⟩, z8, z9, z10, z11⟩ := bk_cells HX4.out
    obtain ⟨⟨y0, y1, y2, y3⟩, ⟨y4, y5, y6, y7⟩, y8, y9, y10, y11⟩ := bk_cells HY4.out
    simp only at z0 z1 z2 z3 z4 z5 z6 z7 z8 z9 z10 z11 y0 y1 y2 y3 y4 y5 y6 y7 y8 y9 y10 y11
    by_cases h6 : notes = notes'
    rotate_left 1
    · obtain rfl : res = false := by cases hr : res with | false => rfl | true => exact absurd (congrArg Bk.notes (Hres.out.1 hr)) h6
      rw [show sameNt notes notes' = false from decide_eq_false h6]
      go_wp2_with fail
      go_ret
      exact ⟨by rfl, Hb4.out⟩
    rw [show sameNt notes notes' = true from decide_eq_true h6]
    have Hk6 := Lib.hid h6
    clear h6
    have Hc5 := Lib.hid (refausame_calls au au' al bl _ (HA5.out.later Hb4.out) (HB5.out.later Hb4.out) res (by
     rw [Hres.out]
     refine ⟨fun e => congrArg Bk.au e, fun e => ?_⟩
     rw [Hk2.out, Hk3.out, He.out, Hk5.out, Hk6.out, e]))
    obtain ⟨a5, m5, c5, a6, m6, c6, a7, m7, c7⟩ := al
    obtain ⟨b5, n5, d5, b6, n6, d6, b7, n7, d7⟩ := bl
    obtain ⟨tr, ph, told, use, inc, mv⟩ := au
    obtain ⟨tr', ph', told', use', inc', mv'⟩ := au'
    simp only at z6 z7 z8 z9 z10 z11 y6 y7 y8 y9 y10 y11
    go_wp2_with fail
    refine Hc5.out.mono ?_
    rintro e w5 ⟨rfl, hb⟩
    have Hb5 := Lib.hid (held_next Hb4.out hb)
    clear hb
    go_wp2_with fail
    go_ret
    exact ⟨by simp, Hb5.out⟩
end Go.Proofs.YtnkgakhnlbifdaaGreat
namespace Go.Proofs.YtnkgakhnlbifdaaGreat
open Go.RowKit
def ApartV (u v : Value) : Prop := ∀ b, u.ownBlock = some b → v.ownBlock ≠ some b
theorem ApartV.symm {u v : Value} (h : ApartV u v) : ApartV v u := fun b hb hu => h b hu hb
theorem apart_nil (v : Value) (a : Option Addr) (h : a = none) (c : Nat) : ApartV (.slice a 0 c) v := fun b hb => by subst h; simp [Value.ownBlock] at hb
theorem Grew.beside {w w' : World} {v v' v2 : Value} {b2 : Nat} {e2 : TypeId} {s2 n2 : Nat} {xs2 : List Value} (h : Grew w w' v v') (h2 : w.ownsRow b2 e2 s2 v2 n2 xs2) (ha : ApartV v2 v) : w'.ownsRow b2 e2 s2 v2 n2 xs2 ∧ ApartV v2 v' := by
 constructor
 · have hG := h.1
   cases hv : v.ownBlock with
   | none => rw [hv] at hG; exact h2.kept hG (by cases v2.ownBlock <;> simp)
   | some b =>
     rw [hv] at hG
     exact h2.kept hG (.inr fun e => ha b e hv)
 · intro b hb e
   rcases h.2 with h3 | h3
   · exact ha b hb (h3.symm.trans e)
   · rw [h3] at e
     have := (h2.lt b hb).2
     injection e with e
     omega
theorem own_sides {w : World} {base b2 : Nat} {e e2 : TypeId} {s s2 n n2 : Nat} {v v2 : Value} {xs xs2 : List Value} (h : w.ownsRow base e s v n xs) (h2 : w.ownsRow b2 e2 s2 v2 n2 xs2) (he : e ≠ e2) : ApartV v v2 := fun _ hb => own_apart h h2 he hb
end Go.Proofs.YtnkgakhnlbifdaaGreat
namespace Go.Proofs.YtnkgakhnlbifdaaGreat
open Go.RowKit
theorem own_low {w : World} {base : Nat} {e : TypeId} {s n : Nat} {v : Value} {xs : List Value} (h : w.ownsRow base e s v n xs) {p : Addr} (hp : p.block < base) (u : Value) : (w.setCell p u).ownsRow base e s v n xs :=
 h.kept (grownBy_set w p u) (.inr fun e => by have := (h.lt _ e).1; omega)
theorem own_not {w : World} {base G : Nat} {e : TypeId} {s n : Nat} {v : Value} {xs : List Value} (h : w.ownsRow base e s v n xs) (hG : G < base) : v.ownBlock ≠ some G := fun e => by have := (h.lt _ e).1; omega
end Go.Proofs.YtnkgakhnlbifdaaGreat
namespace Go.Proofs.YtnkgakhnlbifdaaGreat
open Go.ChangeShapes Go.WideShapes Go.ChangeAt Go.RowKit
theorem Elems.other {w : World} {A : Option Addr} {c sz n : Nat} {f : Nat → Nat → Value} (h : Elems w (.slice A n c) sz n f) {p : Addr} (hp : ∀ ad, A = some ad → ad.block ≠ p.block) (u : Value) : Elems (w.setCell p u) (.slice A n c) sz n f := by
 refine ⟨h.1, ?_⟩
 obtain ⟨_, h2 | ⟨b, off, cap, hv, hn, hcell⟩⟩ := h
 · exact Or.inl h2
 · refine Or.inr ⟨b, off, cap, hv, hn, fun i j hi hj => ?_⟩
   simp only [Value.slice.injEq] at hv
   have hb : b ≠ p.block := hp _ hv.1
   rw [← hcell i j hi hj]
   unfold World.cell?
   rw [Below.heap_setCell w p u b hb]
end Go.Proofs.YtnkgakhnlbifdaaGreat
namespace Go.Proofs.YtnkgakhnlbifdaaGreat
open Go.RowKit
def bk12 (wx : World) (g : Nat) (x : Bk) (rv lv ov nv tv uv iv : Value) : World := (((((((((((wx.setCell ⟨g, 0, none⟩ (.int .i64 x.clk)).setCell ⟨g, 1, none⟩ rv).setCell ⟨g, 2, none⟩ lv).setCell ⟨g, 3, none⟩ ov).setCell ⟨g, 4, none⟩ (.int .i64 x.asks)).setCell ⟨g, 5, none⟩ nv).setCell ⟨g, 6, none⟩ (.int .i64 x.au.try_)).setCell ⟨g, 7, none⟩ (.int .i64 x.au.ph)).setCell ⟨g, 8, none⟩ tv).setCell ⟨g, 9, none⟩ uv).setCell ⟨g, 10, none⟩ iv).setCell ⟨g, 11, none⟩ (.bool x.au.moved)
theorem bk12_below {B : Nat} {w0 wx : World} {g : Nat} {x : Bk} {rv lv ov nv tv uv iv : Value} (h : Below B w0 wx) (hg : B ≤ g) : Below B w0 (bk12 wx g x rv lv ov nv tv uv iv) := (((((((((((h.setCell (p := ⟨g, 0, none⟩) hg _).setCell (p := ⟨g, 1, none⟩) hg _).setCell (p := ⟨g, 2, none⟩) hg _).setCell (p := ⟨g, 3, none⟩) hg _).setCell (p := ⟨g, 4, none⟩) hg _).setCell (p := ⟨g, 5, none⟩) hg _).setCell (p := ⟨g, 6, none⟩) hg _).setCell (p := ⟨g, 7, none⟩) hg _).setCell (p := ⟨g, 8, none⟩) hg _).setCell (p := ⟨g, 9, none⟩) hg _).setCell (p := ⟨g, 10, none⟩) hg _).setCell (p := ⟨g, 11, none⟩) hg _
theorem bk12_cells (x y : Bk) (rv lv ov nv tv uv iv rv' lv' ov' nv' tv' uv' iv' : Value) : ((((((((((((bkCells y rv' lv' ov' nv' tv' uv' iv').setIfInBounds 0 (.int .i64 x.clk)).setIfInBounds 1 rv).setIfInBounds 2 lv).setIfInBounds 3 ov).setIfInBounds 4 (.int .i64 x.asks)).setIfInBounds 5 nv).setIfInBounds 6 (.int .i64 x.au.try_)).setIfInBounds 7 (.int .i64 x.au.ph)).setIfInBounds 8 tv).setIfInBounds 9 uv).setIfInBounds 10 iv).setIfInBounds 11 (.bool x.au.moved) = bkCells x rv lv ov nv tv uv iv := by
 simp only [bkCells, qA, qB, qC]
theorem bk12_whole {wx : World} {g : Nat} {x y : Bk} {rv lv ov nv tv uv iv rv' lv' ov' nv' tv' uv' iv' : Value} (h : Whole wx g 37 (bkCells y rv' lv' ov' nv' tv' uv' iv')) : Whole (bk12 wx g x rv lv ov nv tv uv iv) g 37 (bkCells x rv lv ov nv tv uv iv) := by
 have h1 := (((((((((((h.set 0 (.int .i64 x.clk)).set 1 rv).set 2 lv).set 3 ov).set 4 (.int .i64 x.asks)).set 5 nv).set 6 (.int .i64 x.au.try_)).set 7 (.int .i64 x.au.ph)).set 8 tv).set 9 uv).set 10 iv).set 11 (.bool x.au.moved)
 rw [bk12_cells] at h1
 exact h1
theorem bk12_elems {wx : World} {g sz n c : Nat} {A : Option Addr} {f : Nat → Nat → Value} {x : Bk} {rv lv ov nv tv uv iv : Value} (h : Elems wx (.slice A n c) sz n f) (hg : ∀ ad, A = some ad → ad.block ≠ g) : Elems (bk12 wx g x rv lv ov nv tv uv iv) (.slice A n c) sz n f := (((((((((((h.other (p := ⟨g, 0, none⟩) hg _).other (p := ⟨g, 1, none⟩) hg _).other (p := ⟨g, 2, none⟩) hg _).other (p := ⟨g, 3, none⟩) hg _).other (p := ⟨g, 4, none⟩) hg _).other (p := ⟨g, 5, none⟩) hg _).other (p := ⟨g, 6, none⟩) hg _).other (p := ⟨g, 7, none⟩) hg _).other (p := ⟨g, 8, none⟩) hg _).other (p := ⟨g, 9, none⟩) hg _).other (p := ⟨g, 10, none⟩) hg _).other (p := ⟨g, 11, none⟩) hg _
theorem bk12_notes {wx : World} {g n c : Nat} {A : Option Addr} {l : List Nt} {x : Bk} {rv lv ov nv tv uv iv : Value} (h : Notes wx (.slice A n c) l) (hn : n = l.length) (hg : ∀ ad, A = some ad → ad.block ≠ g) : Notes (bk12 wx g x rv lv ov nv tv uv iv) (.slice A n c) l := by
 subst hn
 exact bk12_elems h hg
theorem OwnBooks.low {w : World} {base : Nat} {v : Value} {l : List Rw} (h : OwnBooks w base v l) {p : Addr} (hp : p.block < base) (u : Value) : OwnBooks (w.setCell p u) base v l := by
 obtain ⟨g, h1, h2, h3⟩ := h
 exact ⟨g, h1.kept (grownBy_set w p u) (.inr fun e => by have := (h1.lt _ e).1; omega), fun k hk => ⟨(h2 k hk).1, (h2 k hk).2.kept (grownBy_set w p u) (.inr fun e => by have := ((h2 k hk).2.lt _ e).1; omega)⟩, h3⟩
theorem bk12_own {w : World} {base g : Nat} {v : Value} {l : List Rw} {x : Bk} {rv lv ov nv tv uv iv : Value} (h : OwnBooks w base v l) (hg : g < base) : OwnBooks (bk12 w g x rv lv ov nv tv uv iv) base v l := (((((((((((h.low (p := ⟨g, 0, none⟩) hg _).low (p := ⟨g, 1, none⟩) hg _).low (p := ⟨g, 2, none⟩) hg _).low (p := ⟨g, 3, none⟩) hg _).low (p := ⟨g, 4, none⟩) hg _).low (p := ⟨g, 5, none⟩) hg _).low (p := ⟨g, 6, none⟩) hg _).low (p := ⟨g, 7, none⟩) hg _).low (p := ⟨g, 8, none⟩) hg _).low (p := ⟨g, 9, none⟩) hg _).low (p := ⟨g, 10, none⟩) hg _).low (p := ⟨g, 11, none⟩) hg _
theorem info_note17 : (Tryz.prog.info? 71).map (fun i => (i.zero, i.size, i.bytes)) = some (some (.agg #[.int .i64 0, .int .i64 0, .int .i64 0, .int .i64 0, .int .i64 0, .int .i64 0, .int .i64 0]), 7, 56) := by kernel_rfl
abbrev zero7 : Array Value := #[.int .i64 0, .int .i64 0, .int .i64 0, .int .i64 0, .int .i64 0, .int .i64 0, .int .i64 0]
theorem made_note {m j : Nat} (h : j < m * 7) : (madeCells zero7 (m * 7))[j]? = some (.int .i64 0) := by
 unfold madeCells
 rw [Array.getElem?_map, Array.getElem?_range, if_pos h]
 show some (zero7[j % 7]!) = _
 have hj : j % 7 < 7 := Nat.mod_lt _ (by decide)
 generalize j % 7 = k at hj
 match k, hj with
 | 0, _ => rfl
 | 1, _ => rfl
 | 2, _ => rfl
 | 3, _ => rfl
 | 4, _ => rfl
 | 5, _ => rfl
 | 6, _ => rfl
theorem run_make_notes {w : World} {m : Nat} (h16 : m ≤ 1000) : (Instr.makeSlice 29 (.int .i64 (m : Int)) (.int .i64 (m : Int))).run Tryz.prog w = .ok (.slice (some ⟨w.heap.size, 0, none⟩) m m) (w.alloc (.cells (madeCells zero7 (m * 7)) 71)) := by
 obtain ⟨i0, hi, hz0, hz1, hz2⟩ := info_parts info_note17
 have := run_make (P := Tryz.prog) w 29 71 i0 (.agg zero7) Tryz.underlying29 hi hz0 .i64 .i64 (m : Int) (m : Int) (by omega) (by omega) (by rw [hz2]; omega) (by omega)
 simpa [hz1, show (Value.agg zero7).cells = zero7 from rfl] using this
theorem notes_zero {w : World} {m g : Nat} (hm : m ≤ 1000) (h : Whole w g 71 (madeCells zero7 (m * 7))) : Notes w (.slice (some ⟨g, 0, none⟩) m m) (List.replicate m nt0) := by
 refine ⟨by rw [List.length_replicate]; omega, Or.inr ⟨g, 0, m, by rw [List.length_replicate], by rw [List.length_replicate]; exact Nat.le_refl _, fun i j hi hj => ?_⟩⟩
 rw [List.length_replicate] at hi
 rw [h.cell, Nat.zero_add, made_note (by omega)]
 have e : ntAt (List.replicate m nt0) i = nt0 := by unfold ntAt; rw [List.getElem?_replicate, if_pos hi]; rfl
 show _ = some (ntc (ntAt (List.replicate m nt0) i) j)
 rw [e]
 unfold ntc
 simp only [ite_self]
end Go.Proofs.YtnkgakhnlbifdaaGreat
namespace Go.Proofs.YtnkgakhnlbifdaaGreat
open Go.ChangeShapes Go.WideShapes Go.ChangeAt Go.RowKit Go.Joins Go.Deep
theorem info_n64 : (Tryz.prog.info? 2).map (fun i => (i.zero, i.size, i.bytes)) = some (some (.int .i64 0), 1, 8) := by kernel_rfl
abbrev OwnN (w : World) (base : Nat) (v : Value) (l : List Int) : Prop := w.ownsRow base 2 1 v l.length (flatCells 1 l.length fun i _ => .int .i64 (l[i]?.getD 0))
theorem OwnN.nums {w : World} {base : Nat} {v : Value} {l : List Int} (h : OwnN w base v l) (hb : l.length ≤ 9223372036854775807) : ∃ A C, v = .slice A l.length C ∧ Nums w (.slice A l.length C) l := by
 obtain ⟨A, C, hv, _, he⟩ := elems_of_own h hb
 exact ⟨A, C, hv, he⟩
theorem Nums.cap {w : World} {a : Option Addr} {m c : Nat} {l : List Int} (h : Nums w (.slice a m c) l) : m ≤ c ∧ m = l.length := by
 obtain ⟨_, ⟨_, _, hv, _, h0⟩ | ⟨_, _, _, hv, hn, _⟩⟩ := h
 · simp only [Value.slice.injEq] at hv
   omega
 · simp only [Value.slice.injEq] at hv
   omega
theorem Nums.from {w : World} {b off m c j : Nat} {l : List Int} (h : Nums w (.slice (some ⟨b, off, none⟩) m c) l) (hj : j ≤ m) : Nums w (.slice (some ⟨b, off + j, none⟩) (m - j) (c - j)) (l.drop j) := by
 have hc := h.cap
 have hb := h.1
 unfold Nums
 rw [List.length_drop]
 refine ⟨by omega, ?_⟩
 by_cases h0 : l.length - j = 0
 · exact Or.inl ⟨_, c - j, by rw [show m - j = 0 by omega], (fun h => by cases h), h0⟩
 · refine Or.inr ⟨b, off + j, c - j, by rw [← hc.2], by omega, fun i k hi hk => ?_⟩
   obtain rfl : k = 0 := by omega
   obtain ⟨b', off', e, _, hcell⟩ := h.at (i := j + i) (by omega)
   simp only [Option.some.injEq, Addr.mk.injEq, and_true] at e
   obtain ⟨rfl, rfl⟩ := e
   rw [Nat.mul_one, Nat.add_zero, Nat.add_assoc, hcell]
   show _ = some (Value.int .i64 ((l.drop j)[i]?.getD 0))
   rw [List.getElem?_drop]
end Go.Proofs.YtnkgakhnlbifdaaGreat
