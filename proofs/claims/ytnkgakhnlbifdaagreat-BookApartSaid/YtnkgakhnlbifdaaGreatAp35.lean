/- Parts, as far as BookApartCards reaches them, of: BookApart. No law is proved here. -/
import Derived.Test.YtnkgakhnlbifdaaGreatAp7
import Derived.Test.YtnkgakhnlbifdaaGreatAp15
import Derived.Test.YtnkgakhnlbifdaaGreatAp34
import Derived.Test.YtnkgakhnlbifdaaGreatAp23
import Derived.Test.YtnkgakhnlbifdaaGreatAp9
import Derived.Deep.RegionHeld3
import Derived.IntWalk
namespace Go.Proofs.YtnkgakhnlbifdaaGreat
open Go.RowKit
theorem byte_one {w : World} {g : Nat} {cb : Int} (h : Whole w g 5 #[.int .u8 cb]) (h0 : 0 ≤ cb ∧ cb < 256) : Bytes w (.slice (some ⟨g, 0, none⟩) 1 1) [cb] :=
 ⟨by rw [List.length_singleton]; decide, fun c hc => by rw [List.mem_singleton] at hc; subst hc; exact h0, Or.inr ⟨g, 0, 1, rfl, fun j hj => by
  obtain rfl : j = 0 := by simpa using hj
  exact h.cell 0⟩⟩
theorem own_not_book {B : Nat} {w : World} {v : Value} {zs : List Int} {g : Nat} {cs : Array Value} (hO : OwnB B w v zs) (hW : Whole w g 37 cs) : v.ownBlock ≠ some g := by
 intro e
 rcases hO.1.2 with ⟨rfl, _⟩ | ⟨g', cap, cur, rfl, _, hh, _⟩
 · simp [Value.ownBlock] at e
 · obtain rfl : g' = g := by simpa [Value.ownBlock] using e
   have h9 := hh.symm.trans hW
   injection h9 with h9
   injection h9 with _ h9
   exact absurd h9 (by decide)
theorem not_of {d : Nat → Bool} {i j : Nat} (hd : d i = false) (h : d j = true → d i = true) : d j = false := by
 cases e : d j with
 | false => rfl
 | true => exact absurd ((h e).symm.trans hd) (by decide)
attribute [local go_sem ↓] run_fine
set_option maxRecDepth 100000 in
set_option maxHeartbeats 16000000 in
theorem bookapart_law (c : Cf) (who : Int) (x : Bk) (pa : Bl) (y : Bk) (pb : Bl) (cut : Nat) (hcut : cut < 65536) (hRx : Reach x.rows) (hRy : Reach y.rows) (w : World) (hM : BkIn w pa x) (hN : BkIn w pb y) :
 Calls Tryz.prog 5 #[cfV c, .int .i64 who, bkAt x pa, bkAt y pb, .int .u16 (cut : Int)] w (Says w true) := by
 have HW0 := Lib.hid (((Whole.made w 23 (cfCells c)).alloc (.cells (bkAtC x pa) 37)).alloc (.cells (bkAtC y pb) 37))
 have HX0 := Lib.hid ((Whole.made2 w (.cells (cfCells c) 23) 37 (bkAtC x pa)).alloc (.cells (bkAtC y pb) 37))
 have HY0 := Lib.hid (Whole.madeAt ((w.alloc (.cells (cfCells c) 23)).alloc (.cells (bkAtC x pa) 37)) 37 (bkAtC y pb) (w.heap.size + 1 + 1) (by simp))
 have Hb0 := Lib.hid ((below_two w (.cells (cfCells c) 23) (.cells (bkAtC x pa) 37)).alloc (by simp; omega) (.cells (bkAtC y pb) 37))
 have HM := Lib.hid hM
 have HN := Lib.hid hN
 obtain ⟨sx, Hsx⟩ : ∃ z, Hid (shortK x pa = z) := ⟨_, Lib.hid rfl⟩
 obtain ⟨sy, Hsy⟩ : ∃ z, Hid (shortK y pb = z) := ⟨_, Lib.hid rfl⟩
 have Hcx := Lib.hid (fun w hw => refkshort_calls x pa hRx w hw)
 have Hcy := Lib.hid (fun w hw => refkshort_calls y pb hRy w hw)
 have HFw : Hid (shortK x pa = true → (bookBytes x).length ≤ 1000000) := fun h => book_few hM h
 have HLx : Hid (shortK x pa = true → (pa.m2 ≤ 40 ∧ pa.m3 ≤ 40 ∧ pa.m4 ≤ 40 ∧ pa.al.m1 ≤ 40 ∧ pa.al.m2 ≤ 40 ∧ pa.al.m3 ≤ 40) ∧ 10 * (allK x).length ≤ 140737488350000) := fun h => book_light hM h
 have HLy : Hid (shortK y pb = true → (pb.m2 ≤ 40 ∧ pb.m3 ≤ 40 ∧ pb.m4 ≤ 40 ∧ pb.al.m1 ≤ 40 ∧ pb.al.m2 ≤ 40 ∧ pb.al.m3 ≤ 40) ∧ 10 * (allK y).length ≤ 140737488350000) := fun h => book_light hN h
 obtain ⟨mx, Hmx⟩ : ∃ z, Hid (bookB c who x = z) := ⟨_, Lib.hid rfl⟩
 obtain ⟨my, Hmy⟩ : ∃ z, Hid (bookB c who y = z) := ⟨_, Lib.hid rfl⟩
 have Hrx := Lib.hid (fun w hw => refkmay_calls c who x pa w hw)
 have Hry := Lib.hid (fun w hw => refkmay_calls c who y pb w hw)
 clear hM hN hRx hRy
 obtain ⟨nn, q, r, p, kk, cc⟩ := c
 obtain ⟨clk, rows, line, outs, asks, notes, ⟨tr, ph, told, use, inc, moved⟩⟩ := x
 obtain ⟨clk2, rows2, line2, outs2, asks2, notes2, ⟨tr2, ph2, told2, use2, inc2, moved2⟩⟩ := y
 obtain ⟨a1, m1, c1, a2, m2, c2, a3, m3, c3, a4, m4, c4, ⟨a5, m5, c5, a6, m6, c6, a7, m7, c7⟩⟩ := pa
 obtain ⟨b1, n1, e1, b2, n2, e2, b3, n3, e3, b4, n4, e4, ⟨b5, n5, e5, b6, n6, e6, b7, n7, e7⟩⟩ := pb
 go_enter Tryz.func5, Tryz.ntmps5
 go_wp2_with fail
 refine (awake17 _).mono ?_
 rintro e w1 ⟨rfl, hb⟩
 have Hb1 := Lib.hid (held_next Hb0.out hb)
 have HW1 := Lib.hid (HW0.out.later hb HW0.out.lt)
 have HX1 := Lib.hid (HX0.out.later hb HX0.out.lt)
 have HY1 := Lib.hid (HY0.out.later hb HY0.out.lt)
 clear hb HW0 HX0 HY0 Hb0
 obtain ⟨d0, d1, d2, d3, d4, d5⟩ := config_cells HW1.out
 obtain ⟨⟨z0, z1, z2, z3⟩, ⟨z4, z5, z6, z7⟩, z8, z9, z10, z11⟩ := bk_cells HX1.out
 obtain ⟨⟨y0, y1, y2, y3⟩, ⟨y4, y5, y6, y7⟩, y8, y9, y10, y11⟩ := bk_cells HY1.out
 simp only at d0 d1 d2 d3 d4 d5 z0 z1 z2 z3 z4 z5 z6 z7 z8 z9 z10 z11 y0 y1 y2 y3 y4 y5 y6 y7 y8 y9 y10 y11
 go_wp2_with fail
 refine (Hcx.out _ (HM.out.later Hb1.out)).mono ?_
 rw [Hsx.out]
 rintro e w2 ⟨rfl, hb⟩
 have Hb2 := Lib.hid (held_next Hb1.out hb)
 have HW2 := Lib.hid (HW1.out.later hb HW1.out.lt)
 have HX2 := Lib.hid (HX1.out.later hb HX1.out.lt)
 have HY2 := Lib.hid (HY1.out.later hb HY1.out.lt)
 clear hb d0 d1 d2 d3 d4 d5 z0 z1 z2 z3 z4 z5 z6 z7 z8 z9 z10 z11 y0 y1 y2 y3 y4 y5 y6 y7 y8 y9 y10 y11
 clear HW1 HX1 HY1
 cases sx with
 | false =>
   go_wp2_with fail
   go_ret
   exact ⟨by rfl, Hb2.out⟩
 | true =>
 obtain ⟨d0, d1, d2, d3, d4, d5⟩ := config_cells HW2.out
 obtain ⟨⟨z0, z1, z2, z3⟩, ⟨z4, z5, z6, z7⟩, z8, z9, z10, z11⟩ := bk_cells HX2.out
 obtain ⟨⟨y0, y1, y2, y3⟩, ⟨y4, y5, y6, y7⟩, y8, y9, y10, y11⟩ := bk_cells HY2.out
 simp only at d0 d1 d2 d3 d4 d5 z0 z1 z2 z3 z4 z5 z6 z7 z8 z9 z10 z11 y0 y1 y2 y3 y4 y5 y6 y7 y8 y9 y10 y11
 go_wp2_with fail
 refine (Hcy.out _ (HN.out.later Hb2.out)).mono ?_
 rw [Hsy.out]
 rintro e w3 ⟨rfl, hb⟩
 have Hb3 := Lib.hid (held_next Hb2.out hb)
 have HW3 := Lib.hid (HW2.out.later hb HW2.out.lt)
 have HX3 := Lib.hid (HX2.out.later hb HX2.out.lt)
 have HY3 := Lib.hid (HY2.out.later hb HY2.out.lt)
 clear hb d0 d1 d2 d3 d4 d5 z0 z1 z2 z3 z4 z5 z6 z7 z8 z9 z10 z11 y0 y1 y2 y3 y4 y5 y6 y7 y8 y9 y10 y11
 clear HW2 HX2 HY2
 cases sy with
 | false =>
   go_wp2_with fail
   go_ret
   exact ⟨by rfl, Hb3.out⟩
 | true =>
 obtain ⟨d0, d1, d2, d3, d4, d5⟩ := config_cells HW3.out
 obtain ⟨⟨z0, z1, z2, z3⟩, ⟨z4, z5, z6, z7⟩, z8, z9, z10, z11⟩ := bk_cells HX3.out
 obtain ⟨⟨y0, y1, y2, y3⟩, ⟨y4, y5, y6, y7⟩, y8, y9, y10, y11⟩ := bk_cells HY3.out
 simp only at d0 d1 d2 d3 d4 d5 z0 z1 z2 z3 z4 z5 z6 z7 z8 z9 z10 z11 y0 y1 y2 y3 y4 y5 y6 y7 y8 y9 y10 y11
 go_wp2_with fail
 refine (Hrx.out _ (HM.out.later Hb3.out)).mono ?_
 rw [Hmx.out]
 rintro e w4 ⟨rfl, hb⟩
 have Hb4 := Lib.hid (held_next Hb3.out hb)
 have HW4 := Lib.hid (HW3.out.later hb HW3.out.lt)
 have HX4 := Lib.hid (HX3.out.later hb HX3.out.lt)
 have HY4 := Lib.hid (HY3.out.later hb HY3.out.lt)
 clear hb d0 d1 d2 d3 d4 d5 z0 z1 z2 z3 z4 z5 z6 z7 z8 z9 z10 z11 y0 y1 y2 y3 y4 y5 y6 y7 y8 y9 y10 y11
 clear HW3 HX3 HY3
 cases mx with
 | false =>
   go_wp2_with fail
   go_ret
   exact ⟨by rfl, Hb4.out⟩
 | true =>
 obtain ⟨d0, d1, d2, d3, d4, d5⟩ := config_cells HW4.out
 obtain ⟨⟨z0, z1, z2, z3⟩, ⟨z4, z5, z6, z7⟩, z8, z9, z10, z11⟩ := bk_cells HX4.out
 obtain ⟨⟨y0, y1, y2, y3⟩, ⟨y4, y5, y6, y7⟩, y8, y9, y10, y11⟩ := bk_cells HY4.out
 simp only at d0 d1 d2 d3 d4 d5 z0 z1 z2 z3 z4 z5 z6 z7 z8 z9 z10 z11 y0 y1 y2 y3 y4 y5 y6 y7 y8 y9 y10 y11
 go_wp2_with fail
 refine (Hry.out _ (HN.out.later Hb4.out)).mono ?_
 rw [Hmy.out]
 rintro e w5 ⟨rfl, hb⟩
 have Hb5 := Lib.hid (held_next Hb4.out hb)
 have HW5 := Lib.hid (HW4.out.later hb HW4.out.lt)
 have HX5 := Lib.hid (HX4.out.later hb HX4.out.lt)
 have HY5 := Lib.hid (HY4.out.later hb HY4.out.lt)
 clear hb d0 d1 d2 d3 d4 d5 z0 z1 z2 z3 z4 z5 z6 z7 z8 z9 z10 z11 y0 y1 y2 y3 y4 y5 y6 y7 y8 y9 y10 y11
 clear HW4 HX4 HY4
 cases my with
 | false =>
   go_wp2_with fail
   go_ret
   exact ⟨by rfl, Hb5.out⟩
 | true =>
 have Fx := Lib.hid (HFw.out Hsx.out)
 have Lx := Lib.hid (HLx.out Hsx.out); have Ly := Lib.hid (HLy.out Hsy.out)
 have hox : bookOk ⟨nn, q, r, p, kk, cc⟩ who ⟨clk, rows, line, outs, asks, notes, ⟨tr, ph, told, use, inc, moved⟩⟩ := of_decide_eq_true Hmx.out
 have hoy : bookOk ⟨nn, q, r, p, kk, cc⟩ who ⟨clk2, rows2, line2, outs2, asks2, notes2, ⟨tr2, ph2, told2, use2, inc2, moved2⟩⟩ := of_decide_eq_true Hmy.out
 have Hox := Lib.hid hox; have Hoy := Lib.hid hoy
 clear hox hoy
 clear HLx HLy HFw Hcx Hcy Hrx Hry
 obtain ⟨zx, Hzx⟩ : ∃ z, Hid (bookBytes ⟨clk, rows, line, outs, asks, notes, ⟨tr, ph, told, use, inc, moved⟩⟩ = z) := ⟨_, Lib.hid rfl⟩
 obtain ⟨zy, Hzy⟩ : ∃ z, Hid (bookBytes ⟨clk2, rows2, line2, outs2, asks2, notes2, ⟨tr2, ph2, told2, use2, inc2, moved2⟩⟩ = z) := ⟨_, Lib.hid rfl⟩
 have hpx := fun w hw => kPut_calls ⟨clk, rows, line, outs, asks, notes, ⟨tr, ph, told, use, inc, moved⟩⟩ ⟨a1, m1, c1, a2, m2, c2, a3, m3, c3, a4, m4, c4, ⟨a5, m5, c5, a6, m6, c6, a7, m7, c7⟩⟩ w hw Lx.out.1 Lx.out.2
 have hpy := fun w hw => kPut_calls ⟨clk2, rows2, line2, outs2, asks2, notes2, ⟨tr2, ph2, told2, use2, inc2, moved2⟩⟩ ⟨b1, n1, e1, b2, n2, e2, b3, n3, e3, b4, n4, e4, ⟨b5, n5, e5, b6, n6, e6, b7, n7, e7⟩⟩ w hw Ly.out.1 Ly.out.2
 rw [Hzx.out] at hpx
 rw [Hzy.out] at hpy
 have Hpx := Lib.hid (fun W (h : Below w5.heap.size w5 W) => hpx W (HM.out.later (held_next Hb5.out h)))
 have Hpy := Lib.hid (fun W (h : Below w5.heap.size w5 W) => hpy W (HN.out.later (held_next Hb5.out h)))
 clear hpx hpy
 have KP : Hid (∀ w', Below w5.heap.size w5 w' → Below w5.heap.size w5 w' ∧ ((w'.cell? ⟨w.heap.size + 1, 0, none⟩ = some (.int .i64 clk) ∧ w'.cell? ⟨w.heap.size + 1, 1, none⟩ = some (.slice a1 m1 c1) ∧ w'.cell? ⟨w.heap.size + 1, 2, none⟩ = some (.slice a2 m2 c2) ∧ w'.cell? ⟨w.heap.size + 1, 3, none⟩ = some (.slice a3 m3 c3)) ∧ (w'.cell? ⟨w.heap.size + 1, 4, none⟩ = some (.int .i64 asks) ∧ w'.cell? ⟨w.heap.size + 1, 5, none⟩ = some (.slice a4 m4 c4) ∧ w'.cell? ⟨w.heap.size + 1, 6, none⟩ = some (.int .i64 tr) ∧ w'.cell? ⟨w.heap.size + 1, 7, none⟩ = some (.int .i64 ph)) ∧ (w'.cell? ⟨w.heap.size + 1, 8, none⟩ = some (.slice a5 m5 c5) ∧ w'.cell? ⟨w.heap.size + 1, 9, none⟩ = some (.slice a6 m6 c6) ∧ w'.cell? ⟨w.heap.size + 1, 10, none⟩ = some (.slice a7 m7 c7) ∧ w'.cell? ⟨w.heap.size + 1, 11, none⟩ = some (.bool moved))) ∧ ((w'.cell? ⟨w.heap.size + 1 + 1, 0, none⟩ = some (.int .i64 clk2) ∧ w'.cell? ⟨w.heap.size + 1 + 1, 1, none⟩ = some (.slice b1 n1 e1) ∧ w'.cell? ⟨w.heap.size + 1 + 1, 2, none⟩ = some (.slice b2 n2 e2) ∧ w'.cell? ⟨w.heap.size + 1 + 1, 3, none⟩ = some (.slice b3 n3 e3)) ∧ (w'.cell? ⟨w.heap.size + 1 + 1, 4, none⟩ = some (.int .i64 asks2) ∧ w'.cell? ⟨w.heap.size + 1 + 1, 5, none⟩ = some (.slice b4 n4 e4) ∧ w'.cell? ⟨w.heap.size + 1 + 1, 6, none⟩ = some (.int .i64 tr2) ∧ w'.cell? ⟨w.heap.size + 1 + 1, 7, none⟩ = some (.int .i64 ph2)) ∧ (w'.cell? ⟨w.heap.size + 1 + 1, 8, none⟩ = some (.slice b5 n5 e5) ∧ w'.cell? ⟨w.heap.size + 1 + 1, 9, none⟩ = some (.slice b6 n6 e6) ∧ w'.cell? ⟨w.heap.size + 1 + 1, 10, none⟩ = some (.slice b7 n7 e7) ∧ w'.cell? ⟨w.heap.size + 1 + 1, 11, none⟩ = some (.bool moved2)))) :=
  fun w' h => ⟨h, bk_cells (HX5.out.later h HX5.out.lt), bk_cells (HY5.out.later h HY5.out.lt)⟩
 go_wp2_with fail
 go_region_held3 (fun w' => Below w5.heap.size w5 w' ∧ ((w'.cell? ⟨w.heap.size + 1, 0, none⟩ = some (.int .i64 clk) ∧ w'.cell? ⟨w.heap.size + 1, 1, none⟩ = some (.slice a1 m1 c1) ∧ w'.cell? ⟨w.heap.size + 1, 2, none⟩ = some (.slice a2 m2 c2) ∧ w'.cell? ⟨w.heap.size + 1, 3, none⟩ = some (.slice a3 m3 c3)) ∧ (w'.cell? ⟨w.heap.size + 1, 4, none⟩ = some (.int .i64 asks) ∧ w'.cell? ⟨w.heap.size + 1, 5, none⟩ = some (.slice a4 m4 c4) ∧ w'.cell? ⟨w.heap.size + 1, 6, none⟩ = some (.int .i64 tr) ∧ w'.cell? ⟨w.heap.size + 1, 7, none⟩ = some (.int .i64 ph)) ∧ (w'.cell? ⟨w.heap.size + 1, 8, none⟩ = some (.slice a5 m5 c5) ∧ w'.cell? ⟨w.heap.size + 1, 9, none⟩ = some (.slice a6 m6 c6) ∧ w'.cell? ⟨w.heap.size + 1, 10, none⟩ = some (.slice a7 m7 c7) ∧ w'.cell? ⟨w.heap.size + 1, 11, none⟩ = some (.bool moved))) ∧ ((w'.cell? ⟨w.heap.size + 1 + 1, 0, none⟩ = some (.int .i64 clk2) ∧ w'.cell? ⟨w.heap.size + 1 + 1, 1, none⟩ = some (.slice b1 n1 e1) ∧ w'.cell? ⟨w.heap.size + 1 + 1, 2, none⟩ = some (.slice b2 n2 e2) ∧ w'.cell? ⟨w.heap.size + 1 + 1, 3, none⟩ = some (.slice b3 n3 e3)) ∧ (w'.cell? ⟨w.heap.size + 1 + 1, 4, none⟩ = some (.int .i64 asks2) ∧ w'.cell? ⟨w.heap.size + 1 + 1, 5, none⟩ = some (.slice b4 n4 e4) ∧ w'.cell? ⟨w.heap.size + 1 + 1, 6, none⟩ = some (.int .i64 tr2) ∧ w'.cell? ⟨w.heap.size + 1 + 1, 7, none⟩ = some (.int .i64 ph2)) ∧ (w'.cell? ⟨w.heap.size + 1 + 1, 8, none⟩ = some (.slice b5 n5 e5) ∧ w'.cell? ⟨w.heap.size + 1 + 1, 9, none⟩ = some (.slice b6 n6 e6) ∧ w'.cell? ⟨w.heap.size + 1 + 1, 10, none⟩ = some (.slice b7 n7 e7) ∧ w'.cell? ⟨w.heap.size + 1 + 1, 11, none⟩ = some (.bool moved2))))
  (first | exact KP.out _ (Below.refl _ _).drew | (refine KP.out _ ?_; assumption))
  (first | (have hgo := HBx; clear hgo; go_at_call 11; have hcur := (‹Below w5.heap.size w5 _ ∧ _ ∧ _›).1; refine (Hpy.out _ hcur).mono ?_; rintro ey wy ⟨vy, rfl, hby, hFy⟩; have hSy : Below w5.heap.size w5 wy := held_next hcur hby; obtain ⟨A5, M5, C5, rfl, hM5, hC5⟩ := hFy.args; have HBy := Lib.hid hFy.bytes; have HBx5 := Lib.hid (HBx.out.later hby); have HM5 := Lib.hid hM5; clear hFy hM5 hby)
         | (go_at_call 11; have hcur := (‹Below w5.heap.size w5 _ ∧ _ ∧ _›).1; refine (Hpx.out _ hcur).mono ?_; rintro ex wx ⟨vx, rfl, hbx, hFx⟩; have hSx : Below w5.heap.size w5 wx := held_next hcur hbx; obtain ⟨A4, M4, C4, rfl, hM4, hC4⟩ := hFx.args; have HBx := Lib.hid hFx.bytes; have HM4 := Lib.hid hM4; clear hFx hM4 hbx))
 have Hb6 := Lib.hid (held_next Hb5.out hSy)
 have HW6 := Lib.hid (HW5.out.later hSy HW5.out.lt)
 have HX6 := Lib.hid (HX5.out.later hSy HX5.out.lt)
 have HY6 := Lib.hid (HY5.out.later hSy HY5.out.lt)
 clear hSx hSy KP Hpx Hpy hC5
 obtain ⟨res, hres, hs⟩ : ∃ res : Bool, (res = true ↔ (⟨clk, rows, line, outs, asks, notes, ⟨tr, ph, told, use, inc, moved⟩⟩ : Bk) = ⟨clk2, rows2, line2, outs2, asks2, notes2, ⟨tr2, ph2, told2, use2, inc2, moved2⟩⟩) ∧ ((strOfNums zx).toList == (strOfNums zy).toList) = res := by
  by_cases h : (⟨clk, rows, line, outs, asks, notes, ⟨tr, ph, told, use, inc, moved⟩⟩ : Bk) = ⟨clk2, rows2, line2, outs2, asks2, notes2, ⟨tr2, ph2, told2, use2, inc2, moved2⟩⟩
  · exact ⟨true, iff_of_true rfl h, str_same (by rw [← Hzx.out, ← Hzy.out, h])⟩
  · exact ⟨false, iff_of_false (by decide) h, str_ne fun e => book_bytes_apart Hox.out Hoy.out h (by rw [Hzx.out, Hzy.out]; exact strOf_inj HBx5.out.2.1 HBy.out.2.1 e)⟩
 have Hc := Lib.hid (fun W (h : Below wy.heap.size wy W) => refksame_calls ⟨clk, rows, line, outs, asks, notes, ⟨tr, ph, told, use, inc, moved⟩⟩ ⟨clk2, rows2, line2, outs2, asks2, notes2, ⟨tr2, ph2, told2, use2, inc2, moved2⟩⟩ ⟨a1, m1, c1, a2, m2, c2, a3, m3, c3, a4, m4, c4, ⟨a5, m5, c5, a6, m6, c6, a7, m7, c7⟩⟩ ⟨b1, n1, e1, b2, n2, e2, b3, n3, e3, b4, n4, e4, ⟨b5, n5, e5, b6, n6, e6, b7, n7, e7⟩⟩ W (HM.out.later (held_next Hb6.out h)) (HN.out.later (held_next Hb6.out h)) res hres)
 have hM0 : ¬ (M4 : Int) = 0 := by have h1 := HM4.out; have h2 := book_bytes_some ⟨clk, rows, line, outs, asks, notes, ⟨tr, ph, told, use, inc, moved⟩⟩; rw [Hzx.out] at h2; omega
 have hM1 : ((M4 : Int) == 0) = false := beq_eq_false_iff_ne.2 hM0
 have hM2 : decide ((M4 : Int) = 0) = false := decide_eq_false hM0
 have hMb : M4 ≤ 9223372036854775807 := by rw [HM4.out]; exact HBx5.out.1
 have KP : Hid (∀ w', Below wy.heap.size wy w' → Below wy.heap.size wy w' ∧ (convert 24 9 (.slice A4 M4 C4)).run Tryz.prog w' = .ok (.string (strOfNums zx)) w' ∧ (convert 24 9 (.slice A5 M5 C5)).run Tryz.prog w' = .ok (.string (strOfNums zy)) w' ∧ ((w'.cell? ⟨w.heap.size + 1, 0, none⟩ = some (.int .i64 clk) ∧ w'.cell? ⟨w.heap.size + 1, 1, none⟩ = some (.slice a1 m1 c1) ∧ w'.cell? ⟨w.heap.size + 1, 2, none⟩ = some (.slice a2 m2 c2) ∧ w'.cell? ⟨w.heap.size + 1, 3, none⟩ = some (.slice a3 m3 c3)) ∧ (w'.cell? ⟨w.heap.size + 1, 4, none⟩ = some (.int .i64 asks) ∧ w'.cell? ⟨w.heap.size + 1, 5, none⟩ = some (.slice a4 m4 c4) ∧ w'.cell? ⟨w.heap.size + 1, 6, none⟩ = some (.int .i64 tr) ∧ w'.cell? ⟨w.heap.size + 1, 7, none⟩ = some (.int .i64 ph)) ∧ (w'.cell? ⟨w.heap.size + 1, 8, none⟩ = some (.slice a5 m5 c5) ∧ w'.cell? ⟨w.heap.size + 1, 9, none⟩ = some (.slice a6 m6 c6) ∧ w'.cell? ⟨w.heap.size + 1, 10, none⟩ = some (.slice a7 m7 c7) ∧ w'.cell? ⟨w.heap.size + 1, 11, none⟩ = some (.bool moved))) ∧ ((w'.cell? ⟨w.heap.size + 1 + 1, 0, none⟩ = some (.int .i64 clk2) ∧ w'.cell? ⟨w.heap.size + 1 + 1, 1, none⟩ = some (.slice b1 n1 e1) ∧ w'.cell? ⟨w.heap.size + 1 + 1, 2, none⟩ = some (.slice b2 n2 e2) ∧ w'.cell? ⟨w.heap.size + 1 + 1, 3, none⟩ = some (.slice b3 n3 e3)) ∧ (w'.cell? ⟨w.heap.size + 1 + 1, 4, none⟩ = some (.int .i64 asks2) ∧ w'.cell? ⟨w.heap.size + 1 + 1, 5, none⟩ = some (.slice b4 n4 e4) ∧ w'.cell? ⟨w.heap.size + 1 + 1, 6, none⟩ = some (.int .i64 tr2) ∧ w'.cell? ⟨w.heap.size + 1 + 1, 7, none⟩ = some (.int .i64 ph2)) ∧ (w'.cell? ⟨w.heap.size + 1 + 1, 8, none⟩ = some (.slice b5 n5 e5) ∧ w'.cell? ⟨w.heap.size + 1 + 1, 9, none⟩ = some (.slice b6 n6 e6) ∧ w'.cell? ⟨w.heap.size + 1 + 1, 10, none⟩ = some (.slice b7 n7 e7) ∧ w'.cell? ⟨w.heap.size + 1 + 1, 11, none⟩ = some (.bool moved2)))) :=
  fun w' h => ⟨h, str_any (HBx5.out.later h), str_any (HBy.out.later h), bk_cells (HX6.out.later h HX6.out.lt), bk_cells (HY6.out.later h HY6.out.lt)⟩
 clear hres
 go_wp2_with fail
 go_region_held (fun w' => Below wy.heap.size wy w' ∧ (convert 24 9 (.slice A4 M4 C4)).run Tryz.prog w' = .ok (.string (strOfNums zx)) w' ∧ (convert 24 9 (.slice A5 M5 C5)).run Tryz.prog w' = .ok (.string (strOfNums zy)) w' ∧ ((w'.cell? ⟨w.heap.size + 1, 0, none⟩ = some (.int .i64 clk) ∧ w'.cell? ⟨w.heap.size + 1, 1, none⟩ = some (.slice a1 m1 c1) ∧ w'.cell? ⟨w.heap.size + 1, 2, none⟩ = some (.slice a2 m2 c2) ∧ w'.cell? ⟨w.heap.size + 1, 3, none⟩ = some (.slice a3 m3 c3)) ∧ (w'.cell? ⟨w.heap.size + 1, 4, none⟩ = some (.int .i64 asks) ∧ w'.cell? ⟨w.heap.size + 1, 5, none⟩ = some (.slice a4 m4 c4) ∧ w'.cell? ⟨w.heap.size + 1, 6, none⟩ = some (.int .i64 tr) ∧ w'.cell? ⟨w.heap.size + 1, 7, none⟩ = some (.int .i64 ph)) ∧ (w'.cell? ⟨w.heap.size + 1, 8, none⟩ = some (.slice a5 m5 c5) ∧ w'.cell? ⟨w.heap.size + 1, 9, none⟩ = some (.slice a6 m6 c6) ∧ w'.cell? ⟨w.heap.size + 1, 10, none⟩ = some (.slice a7 m7 c7) ∧ w'.cell? ⟨w.heap.size + 1, 11, none⟩ = some (.bool moved))) ∧ ((w'.cell? ⟨w.heap.size + 1 + 1, 0, none⟩ = some (.int .i64 clk2) ∧ w'.cell? ⟨w.heap.size + 1 + 1, 1, none⟩ = some (.slice b1 n1 e1) ∧ w'.cell? ⟨w.heap.size + 1 + 1, 2, none⟩ = some (.slice b2 n2 e2) ∧ w'.cell? ⟨w.heap.size + 1 + 1, 3, none⟩ = some (.slice b3 n3 e3)) ∧ (w'.cell? ⟨w.heap.size + 1 + 1, 4, none⟩ = some (.int .i64 asks2) ∧ w'.cell? ⟨w.heap.size + 1 + 1, 5, none⟩ = some (.slice b4 n4 e4) ∧ w'.cell? ⟨w.heap.size + 1 + 1, 6, none⟩ = some (.int .i64 tr2) ∧ w'.cell? ⟨w.heap.size + 1 + 1, 7, none⟩ = some (.int .i64 ph2)) ∧ (w'.cell? ⟨w.heap.size + 1 + 1, 8, none⟩ = some (.slice b5 n5 e5) ∧ w'.cell? ⟨w.heap.size + 1 + 1, 9, none⟩ = some (.slice b6 n6 e6) ∧ w'.cell? ⟨w.heap.size + 1 + 1, 10, none⟩ = some (.slice b7 n7 e7) ∧ w'.cell? ⟨w.heap.size + 1 + 1, 11, none⟩ = some (.bool moved2))))
  (first | exact KP.out _ (Below.refl _ _).drew | (refine KP.out _ ?_; assumption))
  (first | (go_at_call 9; have hcur := (‹Below wy.heap.size wy _ ∧ _ ∧ _›).1; refine (Hc.out _ hcur).mono ?_; rintro ez wz ⟨rfl, hbz⟩; have hSz : Below wy.heap.size wy wz := held_next hcur hbz))
 have Hb7 := Lib.hid (held_next Hb6.out hSz)
 have HW7 := Lib.hid (HW6.out.later hSz HW6.out.lt)
 have HBx7 := Lib.hid (HBx5.out.later hSz)
 clear hSz hbz KP Hc
 obtain ⟨k, hk⟩ : ∃ k : Nat, (cut : Int) % (M4 : Int) = (k : Int) := ⟨cut % M4, by omega⟩
 have hkM : k < M4 := by have h1 := HM4.out; have h2 := book_bytes_some ⟨clk, rows, line, outs, asks, notes, ⟨tr, ph, told, use, inc, moved⟩⟩; rw [Hzx.out] at h2; have := Int.emod_lt_of_pos (cut : Int) (show 0 < (M4 : Int) by omega); omega
 have hno : takeK ⟨nn, q, r, p, kk, cc⟩ who (zx.take k) = none := by rw [← Hzx.out]; exact takeK_cut Hox.out (by rw [Hzx.out, ← HM4.out]; exact hkM)
 obtain ⟨v6, hv6, hv6B, A6, C6, hvv, hC6⟩ := piece_upto (zs := zx) HM4.out (Nat.le_of_lt hkM) hC4
 subst hvv
 have hkl : k = (zx.take k).length := by rw [List.length_take, ← HM4.out]; omega
 have Hk := Lib.hid hk
 have hmt := fun W (h : Below wz.heap.size wz W) => (kTake_calls ⟨nn, q, r, p, kk, cc⟩ who A6 k C6 (zx.take k) W (hv6B _ (HBx7.out.later h)) hkl hC6 (by have h8 := Fx.out; rw [Hzx.out] at h8; rw [List.length_take]; omega)).mono fun _ _ h => TookKH.took h
 rw [hno] at hmt
 have Hmt := Lib.hid hmt
 have hwc : IntKind.i64.wrap (cut : Int) = (cut : Int) := IntWalk.i64_in _ (by omega)
 have htm : Int.tmod (cut : Int) (M4 : Int) = (k : Int) := by rw [Int.tmod_eq_emod_of_nonneg (by omega)]; exact hk
 have hM3 : ¬ M4 = 0 := by omega
 clear hmt hk hv6B hno hkl hC6 hkM
 go_wp2_with fail
 refine wp_region_each_at ?hm ?hb (fun a0 d a' w' => ∃ (e0 e1 e2 e3 e4 e5 e6 e7 e8 e9 e10 e11 e12 e13 e15 : Value) (P : Bl) (gb : Nat), a' = putAll a0 [(60, e0), (61, e1), (62, e2), (63, e3), (64, e4), (65, e5), (66, e6), (67, e7), (68, e8), (69, e9), (59, e10), (70, e11), (71, e12), (13, e13), (14, e15)] ∧ Below wz.heap.size wz w' ∧ (d 0 = true → e0 = (cfV ⟨nn, q, r, p, kk, cc⟩)) ∧ (d 1 = true → e1 = (.int .i64 who)) ∧ (d 2 = true → e2 = (.slice A4 M4 C4)) ∧ (d 3 = true → e3 = (.int .u16 (cut : Int))) ∧ (d 4 = true → e4 = (.int .i64 (cut : Int))) ∧ (d 5 = true → e5 = (.slice A4 M4 C4)) ∧ (d 6 = true → e6 = (.int .i64 (M4 : Int))) ∧ (d 7 = true → e7 = (.int .i64 (k : Int))) ∧ (d 8 = true → e8 = (.slice A6 k C6)) ∧ (d 9 = true → (e9 = .tuple #[bkAt bk0 P, .bool false])) ∧ (d 10 = true → (d 9 = true ∧ e10 = .tuple #[bkAt bk0 P, .bool false])) ∧ (d 11 = true → (d 9 = true ∧ e11 = bkAt bk0 P)) ∧ (d 12 = true → (e12 = .bool false)) ∧ (d 13 = true → (e13 = .pointer (some ⟨gb, 0, none⟩) ∧ wz.heap.size ≤ gb ∧ gb < w'.heap.size ∧ (d 14 = false → Whole w' gb 37 (bkCells bk0 (.slice none 0 0) (.slice none 0 0) (.slice none 0 0) (.slice none 0 0) (.slice none 0 0) (.slice none 0 0) (.slice none 0 0))))) ∧ (d 14 = true → (d 13 = true)) ∧ (d 15 = true → (e15 = .bool false))) ?h0 ?step ?ends
 case hm => kernel_rfl
 case hb => kernel_rfl
 case h0 =>
  refine ⟨undef, undef, undef, undef, undef, undef, undef, undef, undef, undef, undef, undef, undef, undef, undef, bl00, 0, ?_, (Below.refl _ _).drew, fun h => absurd h (by decide), fun h => absurd h (by decide), fun h => absurd h (by decide), fun h => absurd h (by decide), fun h => absurd h (by decide), fun h => absurd h (by decide), fun h => absurd h (by decide), fun h => absurd h (by decide), fun h => absurd h (by decide), fun h => absurd h (by decide), fun h => absurd h (by decide), fun h => absurd h (by decide), fun h => absurd h (by decide), fun h => absurd h (by decide), fun h => absurd h (by decide), fun h => absurd h (by decide)⟩
  simp only [putAll, Act.put, List.setIfInBounds_toArray, List.set_cons_zero, List.set_cons_succ]
 case step =>
  intro i d a' w' hi hJ hd hk
  obtain ⟨e0, e1, e2, e3, e4, e5, e6, e7, e8, e9, e10, e11, e12, e13, e15, P, gb, rfl, hC⟩ := hJ
  obtain ⟨hB, hC⟩ := hC
  obtain ⟨c0, hC⟩ := hC
  obtain ⟨c1, hC⟩ := hC
  obtain ⟨c2, hC⟩ := hC
  obtain ⟨c3, hC⟩ := hC
  obtain ⟨c4, hC⟩ := hC
  obtain ⟨c5, hC⟩ := hC
  obtain ⟨c6, hC⟩ := hC
  obtain ⟨c7, hC⟩ := hC
  obtain ⟨c8, hC⟩ := hC
  obtain ⟨c9, hC⟩ := hC
  obtain ⟨c10, hC⟩ := hC
  obtain ⟨c11, hC⟩ := hC
  obtain ⟨c12, hC⟩ := hC
  obtain ⟨c13, hC⟩ := hC
  obtain ⟨c14, hC⟩ := hC
  have c15 := hC
  clear hC
  match i, hi, hd, hk with
  | 0, _, hd, hk =>
    obtain ⟨z0, z1, z2, z3, z4, z5⟩ := config_cells (HW7.out.later hB HW7.out.lt)
    simp only at z0 z1 z2 z3 z4 z5
    apply wpOp_at
    case ho => rfl
    intro K hK
    simp only [putAll, Act.put, List.setIfInBounds_toArray, List.set_cons_zero, List.set_cons_succ]
    go_simp
    refine hK _ _ ⟨(cfV ⟨nn, q, r, p, kk, cc⟩), e1, e2, e3, e4, e5, e6, e7, e8, e9, e10, e11, e12, e13, e15, P, gb, ?_, hB, fun _ => rfl, c1, c2, c3, c4, c5, c6, c7, c8, c9, c10, c11, c12, c13, c14, c15⟩
    simp only [putAll, Act.put, List.setIfInBounds_toArray, List.set_cons_zero, List.set_cons_succ]
    all_goals rfl
  | 1, _, hd, hk =>
    apply wpOp_at
    case ho => rfl
    intro K hK
    simp only [putAll, Act.put, List.setIfInBounds_toArray, List.set_cons_zero, List.set_cons_succ]
    go_simp
    refine hK _ _ ⟨e0, (.int .i64 who), e2, e3, e4, e5, e6, e7, e8, e9, e10, e11, e12, e13, e15, P, gb, ?_, hB, c0, fun _ => rfl, c2, c3, c4, c5, c6, c7, c8, c9, c10, c11, c12, c13, c14, c15⟩
    simp only [putAll, Act.put, List.setIfInBounds_toArray, List.set_cons_zero, List.set_cons_succ]
    all_goals rfl
  | 2, _, hd, hk =>
    apply wpOp_at
    case ho => rfl
    intro K hK
    simp only [putAll, Act.put, List.setIfInBounds_toArray, List.set_cons_zero, List.set_cons_succ]
    go_simp
    refine hK _ _ ⟨e0, e1, (.slice A4 M4 C4), e3, e4, e5, e6, e7, e8, e9, e10, e11, e12, e13, e15, P, gb, ?_, hB, c0, c1, fun _ => rfl, c3, c4, c5, c6, c7, c8, c9, c10, c11, c12, c13, c14, c15⟩
    simp only [putAll, Act.put, List.setIfInBounds_toArray, List.set_cons_zero, List.set_cons_succ]
    all_goals rfl
  | 3, _, hd, hk =>
    apply wpOp_at
    case ho => rfl
    intro K hK
    simp only [putAll, Act.put, List.setIfInBounds_toArray, List.set_cons_zero, List.set_cons_succ]
    go_simp
    refine hK _ _ ⟨e0, e1, e2, (.int .u16 (cut : Int)), e4, e5, e6, e7, e8, e9, e10, e11, e12, e13, e15, P, gb, ?_, hB, c0, c1, c2, fun _ => rfl, c4, c5, c6, c7, c8, c9, c10, c11, c12, c13, c14, c15⟩
    simp only [putAll, Act.put, List.setIfInBounds_toArray, List.set_cons_zero, List.set_cons_succ]
    all_goals rfl
  | 4, _, hd, hk =>
    have h3 : d 3 = true := hk 3 (by decide +kernel)
    obtain rfl := c3 h3
    apply wpOp_at
    case ho => rfl
    intro K hK
    simp only [putAll, Act.put, List.setIfInBounds_toArray, List.set_cons_zero, List.set_cons_succ]
    go_simp
    refine hK _ _ ⟨e0, e1, e2, (.int .u16 (cut : Int)), (.int .i64 (cut : Int)), e5, e6, e7, e8, e9, e10, e11, e12, e13, e15, P, gb, ?_, hB, c0, c1, c2, c3, fun _ => rfl, c5, c6, c7, c8, c9, c10, c11, c12, c13, c14, c15⟩
    simp only [putAll, Act.put, List.setIfInBounds_toArray, List.set_cons_zero, List.set_cons_succ]
    all_goals rfl
  | 5, _, hd, hk =>
    apply wpOp_at
    case ho => rfl
    intro K hK
    simp only [putAll, Act.put, List.setIfInBounds_toArray, List.set_cons_zero, List.set_cons_succ]
    go_simp
    refine hK _ _ ⟨e0, e1, e2, e3, e4, (.slice A4 M4 C4), e6, e7, e8, e9, e10, e11, e12, e13, e15, P, gb, ?_, hB, c0, c1, c2, c3, c4, fun _ => rfl, c6, c7, c8, c9, c10, c11, c12, c13, c14, c15⟩
    simp only [putAll, Act.put, List.setIfInBounds_toArray, List.set_cons_zero, List.set_cons_succ]
    all_goals rfl
  | 6, _, hd, hk =>
    have h5 : d 5 = true := hk 5 (by decide +kernel)
    obtain rfl := c5 h5
    apply wpOp_at
    case ho => rfl
    intro K hK
    simp only [putAll, Act.put, List.setIfInBounds_toArray, List.set_cons_zero, List.set_cons_succ]
    go_simp
    refine hK _ _ ⟨e0, e1, e2, e3, e4, (.slice A4 M4 C4), (.int .i64 (M4 : Int)), e7, e8, e9, e10, e11, e12, e13, e15, P, gb, ?_, hB, c0, c1, c2, c3, c4, c5, fun _ => rfl, c7, c8, c9, c10, c11, c12, c13, c14, c15⟩
    simp only [putAll, Act.put, List.setIfInBounds_toArray, List.set_cons_zero, List.set_cons_succ]
    all_goals rfl
  | 7, _, hd, hk =>
    have h4 : d 4 = true := hk 4 (by decide +kernel)
    have h6 : d 6 = true := hk 6 (by decide +kernel)
    obtain rfl := c4 h4
    obtain rfl := c6 h6
    apply wpOp_at
    case ho => rfl
    intro K hK
    simp only [putAll, Act.put, List.setIfInBounds_toArray, List.set_cons_zero, List.set_cons_succ]
    go_simp
    refine hK _ _ ⟨e0, e1, e2, e3, (.int .i64 (cut : Int)), e5, (.int .i64 (M4 : Int)), (.int .i64 (k : Int)), e8, e9, e10, e11, e12, e13, e15, P, gb, ?_, hB, c0, c1, c2, c3, c4, c5, c6, fun _ => rfl, c8, c9, c10, c11, c12, c13, c14, c15⟩
    simp only [putAll, Act.put, List.setIfInBounds_toArray, List.set_cons_zero, List.set_cons_succ]
    all_goals rfl
  | 8, _, hd, hk =>
    have h2 : d 2 = true := hk 2 (by decide +kernel)
    have h7 : d 7 = true := hk 7 (by decide +kernel)
    obtain rfl := c2 h2
    obtain rfl := c7 h7
    apply wpOp_at
    case ho => rfl
    intro K hK
    simp only [putAll, Act.put, List.setIfInBounds_toArray, List.set_cons_zero, List.set_cons_succ]
    go_simp
    refine hK _ _ ⟨e0, e1, (.slice A4 M4 C4), e3, e4, e5, e6, (.int .i64 (k : Int)), (.slice A6 k C6), e9, e10, e11, e12, e13, e15, P, gb, ?_, hB, c0, c1, c2, c3, c4, c5, c6, c7, fun _ => rfl, c9, c10, c11, c12, c13, c14, c15⟩
    simp only [putAll, Act.put, List.setIfInBounds_toArray, List.set_cons_zero, List.set_cons_succ]
    all_goals rfl
  | 9, _, hd, hk =>
    have h0 : d 0 = true := hk 0 (by decide +kernel)
    have h1 : d 1 = true := hk 1 (by decide +kernel)
    have h8 : d 8 = true := hk 8 (by decide +kernel)
    obtain rfl := c0 h0
    obtain rfl := c1 h1
    obtain rfl := c8 h8
    apply wpOp_at
    case ho => rfl
    intro K hK
    simp only [putAll, Act.put, List.setIfInBounds_toArray, List.set_cons_zero, List.set_cons_succ]
    go_simp
    refine (Hmt.out _ hB).mono ?_
    rintro e w'' ⟨p', rfl, _, hb⟩
    refine hK _ _ ⟨(cfV ⟨nn, q, r, p, kk, cc⟩), (.int .i64 who), e2, e3, e4, e5, e6, e7, (.slice A6 k C6), .tuple #[bkAt bk0 p', .bool false], e10, e11, e12, e13, e15, p', gb, ?_, hB.trans (hb.mono hB.size), c0, c1, c2, c3, c4, c5, c6, c7, c8, fun _ => rfl, fun h => Bool.noConfusion (hd.symm.trans (c10 h).1), fun h => Bool.noConfusion (hd.symm.trans (c11 h).1), c12, fun h => ⟨(c13 h).1, (c13 h).2.1, Nat.lt_of_lt_of_le (c13 h).2.2.1 hb.size, fun h2 => ((c13 h).2.2.2 h2).later hb (c13 h).2.2.1⟩, c14, c15⟩
    simp only [putAll, Act.put, List.setIfInBounds_toArray, List.set_cons_zero, List.set_cons_succ]
    all_goals rfl
  | 10, _, hd, hk =>
    have h9 : d 9 = true := hk 9 (by decide +kernel)
    obtain rfl := c9 h9
    apply wpOp_at
    case ho => rfl
    intro K hK
    simp only [putAll, Act.put, List.setIfInBounds_toArray, List.set_cons_zero, List.set_cons_succ]
    go_simp
    refine hK _ _ ⟨e0, e1, e2, e3, e4, e5, e6, e7, e8, .tuple #[bkAt bk0 P, .bool false], .tuple #[bkAt bk0 P, .bool false], e11, e12, e13, e15, P, gb, ?_, hB, c0, c1, c2, c3, c4, c5, c6, c7, c8, fun _ => rfl, fun _ => ⟨h9, rfl⟩, c11, c12, c13, c14, c15⟩
    simp only [putAll, Act.put, List.setIfInBounds_toArray, List.set_cons_zero, List.set_cons_succ]
    all_goals rfl
  | 11, _, hd, hk =>
    have h10 : d 10 = true := hk 10 (by decide +kernel)
    obtain ⟨h9, rfl⟩ := c10 h10
    obtain rfl := c9 h9
    apply wpOp_at
    case ho => rfl
    intro K hK
    simp only [putAll, Act.put, List.setIfInBounds_toArray, List.set_cons_zero, List.set_cons_succ]
    go_simp
    refine hK _ _ ⟨e0, e1, e2, e3, e4, e5, e6, e7, e8, .tuple #[bkAt bk0 P, .bool false], .tuple #[bkAt bk0 P, .bool false], bkAt bk0 P, e12, e13, e15, P, gb, ?_, hB, c0, c1, c2, c3, c4, c5, c6, c7, c8, fun _ => rfl, fun _ => ⟨h9, rfl⟩, fun _ => ⟨h9, rfl⟩, c12, c13, c14, c15⟩
    simp only [putAll, Act.put, List.setIfInBounds_toArray, List.set_cons_zero, List.set_cons_succ]
    all_goals rfl
  | 12, _, hd, hk =>
    have h10 : d 10 = true := hk 10 (by decide +kernel)
    obtain ⟨h9, rfl⟩ := c10 h10
    obtain rfl := c9 h9
    apply wpOp_at
    case ho => rfl
    intro K hK
    simp only [putAll, Act.put, List.setIfInBounds_toArray, List.set_cons_zero, List.set_cons_succ]
    go_simp
    refine hK _ _ ⟨e0, e1, e2, e3, e4, e5, e6, e7, e8, .tuple #[bkAt bk0 P, .bool false], .tuple #[bkAt bk0 P, .bool false], e11, .bool false, e13, e15, P, gb, ?_, hB, c0, c1, c2, c3, c4, c5, c6, c7, c8, fun _ => rfl, fun _ => ⟨h9, rfl⟩, c11, fun _ => rfl, c13, c14, c15⟩
    simp only [putAll, Act.put, List.setIfInBounds_toArray, List.set_cons_zero, List.set_cons_succ]
    all_goals rfl
  | 13, _, hd, hk =>
    have hb := below_box w' (.cells (bkCells bk0 (.slice none 0 0) (.slice none 0 0) (.slice none 0 0) (.slice none 0 0) (.slice none 0 0) (.slice none 0 0) (.slice none 0 0)) 37)
    apply wpOp_at
    case ho => rfl
    intro K hK
    simp only [putAll, Act.put, List.setIfInBounds_toArray, List.set_cons_zero, List.set_cons_succ]
    go_simp
    refine hK _ _ ⟨e0, e1, e2, e3, e4, e5, e6, e7, e8, e9, e10, e11, e12, .pointer (some ⟨w'.heap.size, 0, none⟩), e15, P, w'.heap.size, ?_, hB.trans (hb.mono hB.size), c0, c1, c2, c3, c4, c5, c6, c7, c8, c9, c10, c11, c12, fun _ => ⟨rfl, hB.size, by simp, fun _ => Whole.made w' _ _⟩, fun h => Bool.noConfusion (hd.symm.trans (c14 h)), c15⟩
    simp only [putAll, Act.put, List.setIfInBounds_toArray, List.set_cons_zero, List.set_cons_succ]
    all_goals rfl
  | 14, _, hd, hk =>
    have h11 : d 11 = true := hk 11 (by decide +kernel)
    have h13 : d 13 = true := hk 13 (by decide +kernel)
    obtain ⟨h9, rfl⟩ := c11 h11
    obtain rfl := c9 h9
    obtain ⟨rfl, hgb, hgl, hw0⟩ := c13 h13
    have hZ := hw0 hd
    have y0 := hZ.free 0
    have y1 := hZ.free 1
    have y2 := hZ.free 2
    have y3 := hZ.free 3
    have y4 := hZ.free 4
    have y5 := hZ.free 5
    have y6 := hZ.free 6
    have y7 := hZ.free 7
    have y8 := hZ.free 8
    have y9 := hZ.free 9
    have y10 := hZ.free 10
    have y11 := hZ.free 11
    obtain ⟨⟨z0, z1, z2, z3⟩, ⟨z4, z5, z6, z7⟩, z8, z9, z10, z11⟩ := bk_cells hZ
    have hlb := bk12_below (g := gb) (x := bk0) (rv := .slice P.a1 P.m1 P.c1) (lv := .slice P.a2 P.m2 P.c2) (ov := .slice P.a3 P.m3 P.c3) (nv := .slice P.a4 P.m4 P.c4) (tv := .slice P.al.a1 P.al.m1 P.al.c1) (uv := .slice P.al.a2 P.al.m2 P.al.c2) (iv := .slice P.al.a3 P.al.m3 P.al.c3) (Below.refl gb w') (Nat.le_refl _)
    apply wpOp_at
    case ho => rfl
    intro K hK
    simp only [putAll, Act.put, List.setIfInBounds_toArray, List.set_cons_zero, List.set_cons_succ]
    go_simp
    refine hK _ _ ⟨e0, e1, e2, e3, e4, e5, e6, e7, e8, .tuple #[bkAt bk0 P, .bool false], e10, bkAt bk0 P, e12, .pointer (some ⟨gb, 0, none⟩), e15, P, gb, ?_, bk12_below (g := gb) (x := bk0) (rv := .slice P.a1 P.m1 P.c1) (lv := .slice P.a2 P.m2 P.c2) (ov := .slice P.a3 P.m3 P.c3) (nv := .slice P.a4 P.m4 P.c4) (tv := .slice P.al.a1 P.al.m1 P.al.c1) (uv := .slice P.al.a2 P.al.m2 P.al.c2) (iv := .slice P.al.a3 P.al.m3 P.al.c3) hB hgb, c0, c1, c2, c3, c4, c5, c6, c7, c8, fun _ => rfl, c10, fun _ => ⟨h9, rfl⟩, c12, fun _ => ⟨rfl, hgb, Nat.lt_of_lt_of_le hgl hlb.size, fun h => Bool.noConfusion (show true = false from h)⟩, fun _ => h13, c15⟩
    simp only [putAll, Act.put, List.setIfInBounds_toArray, List.set_cons_zero, List.set_cons_succ]
    all_goals rfl
  | 15, _, hd, hk =>
    have h12 : d 12 = true := hk 12 (by decide +kernel)
    obtain rfl := c12 h12
    apply wpOp_at
    case ho => rfl
    intro K hK
    simp only [putAll, Act.put, List.setIfInBounds_toArray, List.set_cons_zero, List.set_cons_succ]
    go_simp
    refine hK _ _ ⟨e0, e1, e2, e3, e4, e5, e6, e7, e8, e9, e10, e11, .bool false, e13, .bool false, P, gb, ?_, hB, c0, c1, c2, c3, c4, c5, c6, c7, c8, c9, c10, c11, fun _ => rfl, c13, c14, fun _ => rfl⟩
    simp only [putAll, Act.put, List.setIfInBounds_toArray, List.set_cons_zero, List.set_cons_succ]
    all_goals rfl
  | k + 16, hi, _, _ => exact absurd hi (by simp)
 case ends =>
  intro d a' w9 hJ hall
  obtain ⟨e0, e1, e2, e3, e4, e5, e6, e7, e8, e9, e10, e11, e12, e13, e15, P, gb, rfl, hC⟩ := hJ
  obtain ⟨hB, hC⟩ := hC
  obtain ⟨c0, hC⟩ := hC
  obtain ⟨c1, hC⟩ := hC
  obtain ⟨c2, hC⟩ := hC
  obtain ⟨c3, hC⟩ := hC
  obtain ⟨c4, hC⟩ := hC
  obtain ⟨c5, hC⟩ := hC
  obtain ⟨c6, hC⟩ := hC
  obtain ⟨c7, hC⟩ := hC
  obtain ⟨c8, hC⟩ := hC
  obtain ⟨c9, hC⟩ := hC
  obtain ⟨c10, hC⟩ := hC
  obtain ⟨c11, hC⟩ := hC
  obtain ⟨c12, hC⟩ := hC
  obtain ⟨c13, hC⟩ := hC
  obtain ⟨c14, hC⟩ := hC
  have c15 := hC
  clear hC
  obtain rfl := c15 (hall 15 (by decide +kernel))
  have Hb9 := Lib.hid (held_next Hb7.out hB)
  have HW9 := Lib.hid (HW7.out.later hB HW7.out.lt)
  have HBx9 := Lib.hid (HBx7.out.later hB)
  clear c0 c1 c2 c3 c4 c5 c6 c7 c8 c9 c10 c11 c12 c13 c14 c15 hall hB
  simp only [putAll, Act.put, List.setIfInBounds_toArray, List.set_cons_zero, List.set_cons_succ]
  go_wp2_with fail
  obtain ⟨cb, hcb, hcw⟩ : ∃ cb : Int, (0 ≤ cb ∧ cb < 256) ∧ IntKind.u8.wrap (cut : Int) = cb := ⟨((cut % 256 : Nat) : Int), ⟨by omega, by omega⟩, by rw [IntKind.wrap_u8]; omega⟩
  have Hcb := Lib.hid hcb
  clear hcb
  have hno2 : takeK ⟨nn, q, r, p, kk, cc⟩ who (zx ++ [cb]) = none := by rw [← Hzx.out]; exact takeK_behind Hox.out (by simp)
  have Hlen : Hid ((zx ++ [cb]).length = M4 + 1) := by show _ = _; rw [List.length_append, List.length_singleton, ← HM4.out]
  have hmt2 := fun (A : Option Addr) (C : Nat) (W : World) (h : Bytes W (.slice A (M4 + 1) C) (zx ++ [cb])) (hc : M4 + 1 ≤ C) => (kTake_calls ⟨nn, q, r, p, kk, cc⟩ who A (M4 + 1) C (zx ++ [cb]) W h Hlen.out.symm hc (by have h8 := Fx.out; rw [Hzx.out] at h8; rw [List.length_append, List.length_singleton]; omega)).mono fun _ _ h => TookKH.took h
  rw [hno2] at hmt2
  have Hmt2 := Lib.hid hmt2
  have hln : zx.length ≤ 1000000 := by
   have h1 := book_len Hox.out
   rw [Hzx.out] at h1
   have h2 : nn ≤ 16 := Hox.out.1.1.2.1
   have h3 : q ≤ 8 := Hox.out.1.1.2.2.2.1
   simp only at h1
   have h4 : nn.toNat * (nn.toNat + 12) ≤ 16 * 28 := Nat.mul_le_mul (by omega) (by omega)
   omega
  have Hroom0 : Hid (([] : List Int).length + zx.length ≤ 140737488355300) := by show _ ≤ _; rw [List.length_nil]; omega
  have Hroom1 : Hid (zx.length + [cb].length ≤ 140737488355300) := by show _ ≤ _; rw [List.length_singleton]; omega
  have Hbig : Hid ((zx ++ [cb]).length ≤ 9223372036854775807) := by show _ ≤ _; rw [List.length_append, List.length_singleton]; omega
  clear hmt2 hno2 hln
  refine wp_region_each_at ?hm ?hb (fun a0 d a' w' => ∃ (e0 e1 e2 e3 e4 e5 e6 e7 e8 e9 e10 e11 e12 e13 e15 : Value) (P : Bl) (gb gz : Nat), a' = putAll a0 [(73, e0), (74, e1), (75, e2), (76, e3), (77, e4), (78, e5), (79, e6), (80, e7), (81, e8), (82, e9), (72, e10), (83, e11), (84, e12), (15, e13), (16, e15)] ∧ Below w9.heap.size w9 w' ∧ (d 0 = true → e0 = (cfV ⟨nn, q, r, p, kk, cc⟩)) ∧ (d 1 = true → e1 = (.int .i64 who)) ∧ (d 2 = true → (d 4 = false → OwnB w9.heap.size w' e2 [] ∧ (d 7 = true → e2.ownBlock ≠ some gz))) ∧ (d 3 = true → e3 = (.slice A4 M4 C4)) ∧ (d 4 = true → (d 2 = true ∧ (d 8 = false → OwnB w9.heap.size w' e4 zx ∧ (d 7 = true → e4.ownBlock ≠ some gz)))) ∧ (d 5 = true → e5 = (.int .u16 (cut : Int))) ∧ (d 6 = true → e6 = (.int .u8 cb)) ∧ (d 7 = true → (e7 = .slice (some ⟨gz, 0, none⟩) 1 1 ∧ (d 8 = false → Whole w' gz 5 #[.int .u8 cb]) ∧ gz < w'.heap.size)) ∧ (d 8 = true → (d 4 = true ∧ d 7 = true ∧ (d 9 = false → ∃ A C, e8 = .slice A (M4 + 1) C ∧ Bytes w' (.slice A (M4 + 1) C) (zx ++ [cb]) ∧ M4 + 1 ≤ C))) ∧ (d 9 = true → (d 8 = true ∧ e9 = .tuple #[bkAt bk0 P, .bool false])) ∧ (d 10 = true → (d 9 = true ∧ e10 = .tuple #[bkAt bk0 P, .bool false])) ∧ (d 11 = true → (d 9 = true ∧ e11 = bkAt bk0 P)) ∧ (d 12 = true → (e12 = .bool false)) ∧ (d 13 = true → (e13 = .pointer (some ⟨gb, 0, none⟩) ∧ w9.heap.size ≤ gb ∧ gb < w'.heap.size ∧ (d 14 = false → Whole w' gb 37 (bkCells bk0 (.slice none 0 0) (.slice none 0 0) (.slice none 0 0) (.slice none 0 0) (.slice none 0 0) (.slice none 0 0) (.slice none 0 0))))) ∧ (d 14 = true → (d 13 = true)) ∧ (d 15 = true → (e15 = .bool false))) ?h0 ?step ?ends
  case hm => kernel_rfl
  case hb => kernel_rfl
  case h0 =>
   refine ⟨undef, undef, undef, undef, undef, undef, undef, undef, undef, undef, undef, undef, undef, undef, undef, bl00, 0, 0, ?_, (Below.refl _ _).drew, fun h => absurd h (by decide), fun h => absurd h (by decide), fun h => absurd h (by decide), fun h => absurd h (by decide), fun h => absurd h (by decide), fun h => absurd h (by decide), fun h => absurd h (by decide), fun h => absurd h (by decide), fun h => absurd h (by decide), fun h => absurd h (by decide), fun h => absurd h (by decide), fun h => absurd h (by decide), fun h => absurd h (by decide), fun h => absurd h (by decide), fun h => absurd h (by decide), fun h => absurd h (by decide)⟩
   simp only [putAll, Act.put, List.setIfInBounds_toArray, List.set_cons_zero, List.set_cons_succ]
  case step =>
   intro i d a' w' hi hJ hd hk
   obtain ⟨e0, e1, e2, e3, e4, e5, e6, e7, e8, e9, e10, e11, e12, e13, e15, P, gb, gz, rfl, hC⟩ := hJ
   obtain ⟨hB, hC⟩ := hC
   obtain ⟨c0, hC⟩ := hC
   obtain ⟨c1, hC⟩ := hC
   obtain ⟨c2, hC⟩ := hC
   obtain ⟨c3, hC⟩ := hC
   obtain ⟨c4, hC⟩ := hC
   obtain ⟨c5, hC⟩ := hC
   obtain ⟨c6, hC⟩ := hC
   obtain ⟨c7, hC⟩ := hC
   obtain ⟨c8, hC⟩ := hC
   obtain ⟨c9, hC⟩ := hC
   obtain ⟨c10, hC⟩ := hC
   obtain ⟨c11, hC⟩ := hC
   obtain ⟨c12, hC⟩ := hC
   obtain ⟨c13, hC⟩ := hC
   obtain ⟨c14, hC⟩ := hC
   have c15 := hC
   clear hC
   match i, hi, hd, hk with
   | 0, _, hd, hk =>
     obtain ⟨z0, z1, z2, z3, z4, z5⟩ := config_cells (HW9.out.later hB HW9.out.lt)
     simp only at z0 z1 z2 z3 z4 z5
     apply wpOp_at
     case ho => rfl
     intro K hK
     simp only [putAll, Act.put, List.setIfInBounds_toArray, List.set_cons_zero, List.set_cons_succ]
     go_simp
     refine hK _ _ ⟨(cfV ⟨nn, q, r, p, kk, cc⟩), e1, e2, e3, e4, e5, e6, e7, e8, e9, e10, e11, e12, e13, e15, P, gb, gz, ?_, hB, fun _ => rfl, c1, c2, c3, c4, c5, c6, c7, c8, c9, c10, c11, c12, c13, c14, c15⟩
     simp only [putAll, Act.put, List.setIfInBounds_toArray, List.set_cons_zero, List.set_cons_succ]
     all_goals rfl
   | 1, _, hd, hk =>
     apply wpOp_at
     case ho => rfl
     intro K hK
     simp only [putAll, Act.put, List.setIfInBounds_toArray, List.set_cons_zero, List.set_cons_succ]
     go_simp
     refine hK _ _ ⟨e0, (.int .i64 who), e2, e3, e4, e5, e6, e7, e8, e9, e10, e11, e12, e13, e15, P, gb, gz, ?_, hB, c0, fun _ => rfl, c2, c3, c4, c5, c6, c7, c8, c9, c10, c11, c12, c13, c14, c15⟩
     simp only [putAll, Act.put, List.setIfInBounds_toArray, List.set_cons_zero, List.set_cons_succ]
     all_goals rfl
   | 2, _, hd, hk =>
     have hb := below_box w' (.cells #[] 5)
     have hE := (fresh_empty w').ownB.mono hB.size
     apply wpOp_at
     case ho => rfl
     intro K hK
     simp only [putAll, Act.put, List.setIfInBounds_toArray, List.set_cons_zero, List.set_cons_succ]
     go_simp
     refine hK _ _ ⟨e0, e1, .slice (some ⟨w'.heap.size, 0, none⟩) 0 0, e3, e4, e5, e6, e7, e8, e9, e10, e11, e12, e13, e15, P, gb, gz, ?_, hB.trans (hb.mono hB.size), c0, c1, fun _ => fun _ => ⟨hE, fun h e => by have h9 := (c7 h).2.2; simp [Value.ownBlock] at e; omega⟩, c3, fun h => Bool.noConfusion (hd.symm.trans (c4 h).1), c5, c6, fun h => ⟨(c7 h).1, fun h8 => ((c7 h).2.1 h8).later hb ((c7 h).2.1 h8).lt, Nat.lt_of_lt_of_le (c7 h).2.2 hb.size⟩, fun h => ⟨(c8 h).1, (c8 h).2.1, fun h9 => by
      obtain ⟨A, C, e, hb3, hc⟩ := (c8 h).2.2 h9
      exact ⟨A, C, e, hb3.later hb, hc⟩⟩, c9, c10, c11, c12, fun h => ⟨(c13 h).1, (c13 h).2.1, Nat.lt_of_lt_of_le (c13 h).2.2.1 hb.size, fun h2 => ((c13 h).2.2.2 h2).later hb (c13 h).2.2.1⟩, c14, c15⟩
     simp only [putAll, Act.put, List.setIfInBounds_toArray, List.set_cons_zero, List.set_cons_succ]
     all_goals rfl
   | 3, _, hd, hk =>
     apply wpOp_at
     case ho => rfl
     intro K hK
     simp only [putAll, Act.put, List.setIfInBounds_toArray, List.set_cons_zero, List.set_cons_succ]
     go_simp
     refine hK _ _ ⟨e0, e1, e2, (.slice A4 M4 C4), e4, e5, e6, e7, e8, e9, e10, e11, e12, e13, e15, P, gb, gz, ?_, hB, c0, c1, c2, fun _ => rfl, c4, c5, c6, c7, c8, c9, c10, c11, c12, c13, c14, c15⟩
     simp only [putAll, Act.put, List.setIfInBounds_toArray, List.set_cons_zero, List.set_cons_succ]
     all_goals rfl
   | 4, _, hd, hk =>
     have h2 : d 2 = true := hk 2 (by decide +kernel)
     have h3 : d 3 = true := hk 3 (by decide +kernel)
     obtain rfl := c3 h3
     obtain ⟨hO, hne⟩ := c2 h2 hd
     have h8f : d 8 = false := not_of hd fun h => (c8 h).1
     obtain ⟨v9, w10, hrun, q1, q2, q3⟩ := run_append_own hO hB.size (HBx9.out.later hB) HM4.out hC4 Hroom0.out
     rw [List.nil_append] at q1
     obtain ⟨hfine, happV, happW⟩ := fine_of hrun
     clear hrun
     apply wpOp_at
     case ho => rfl
     intro K hK
     simp only [putAll, Act.put, List.setIfInBounds_toArray, List.set_cons_zero, List.set_cons_succ]
     go_simp
     refine hK _ _ ⟨e0, e1, e2, (.slice A4 M4 C4), v9, e5, e6, e7, e8, e9, e10, e11, e12, e13, e15, P, gb, gz, ?_, hB.trans q2, c0, c1, fun _ h => Bool.noConfusion (show true = false from h), c3, fun _ => ⟨h2, fun _ => ⟨q1, fun h7 => (q3.whole ((c7 h7).2.1 h8f) (hne h7)).2⟩⟩, c5, c6, fun h => ⟨(c7 h).1, fun h8 => (q3.whole ((c7 h).2.1 h8) (hne h)).1, Nat.lt_of_lt_of_le (c7 h).2.2 q2.size⟩, fun h => Bool.noConfusion (hd.symm.trans (c8 h).1), c9, c10, c11, c12, fun h => ⟨(c13 h).1, (c13 h).2.1, Nat.lt_of_lt_of_le (c13 h).2.2.1 q2.size, fun h14 => (q3.whole ((c13 h).2.2.2 h14) (own_not_book hO ((c13 h).2.2.2 h14))).1⟩, c14, c15⟩
     simp only [putAll, Act.put, List.setIfInBounds_toArray, List.set_cons_zero, List.set_cons_succ]
     all_goals rfl
   | 5, _, hd, hk =>
     apply wpOp_at
     case ho => rfl
     intro K hK
     simp only [putAll, Act.put, List.setIfInBounds_toArray, List.set_cons_zero, List.set_cons_succ]
     go_simp
     refine hK _ _ ⟨e0, e1, e2, e3, e4, (.int .u16 (cut : Int)), e6, e7, e8, e9, e10, e11, e12, e13, e15, P, gb, gz, ?_, hB, c0, c1, c2, c3, c4, fun _ => rfl, c6, c7, c8, c9, c10, c11, c12, c13, c14, c15⟩
     simp only [putAll, Act.put, List.setIfInBounds_toArray, List.set_cons_zero, List.set_cons_succ]
     all_goals rfl
   | 6, _, hd, hk =>
     have h5 : d 5 = true := hk 5 (by decide +kernel)
     obtain rfl := c5 h5
     apply wpOp_at
     case ho => rfl
     intro K hK
     simp only [putAll, Act.put, List.setIfInBounds_toArray, List.set_cons_zero, List.set_cons_succ]
     go_simp
     refine hK _ _ ⟨e0, e1, e2, e3, e4, (.int .u16 (cut : Int)), (.int .u8 cb), e7, e8, e9, e10, e11, e12, e13, e15, P, gb, gz, ?_, hB, c0, c1, c2, c3, c4, c5, fun _ => rfl, c7, c8, c9, c10, c11, c12, c13, c14, c15⟩
     simp only [putAll, Act.put, List.setIfInBounds_toArray, List.set_cons_zero, List.set_cons_succ]
     all_goals rfl
   | 7, _, hd, hk =>
     have h6 : d 6 = true := hk 6 (by decide +kernel)
     obtain rfl := c6 h6
     have hb := below_box w' (.cells #[.int .u8 cb] 5)
     apply wpOp_at
     case ho => rfl
     intro K hK
     simp only [putAll, Act.put, List.setIfInBounds_toArray, List.set_cons_zero, List.set_cons_succ]
     go_simp
     refine hK _ _ ⟨e0, e1, e2, e3, e4, e5, (.int .u8 cb), .slice (some ⟨w'.heap.size, 0, none⟩) 1 1, e8, e9, e10, e11, e12, e13, e15, P, gb, w'.heap.size, ?_, hB.trans (hb.mono hB.size), c0, c1, fun h h4 => ⟨((c2 h) h4).1.later hb, fun _ => own_past ((c2 h) h4).1.1 (Nat.le_refl _)⟩, c3, fun h => ⟨(c4 h).1, fun h8 => ⟨((c4 h).2 h8).1.later hb, fun _ => own_past ((c4 h).2 h8).1.1 (Nat.le_refl _)⟩⟩, c5, c6, fun _ => ⟨rfl, fun _ => Whole.made w' _ _, by simp⟩, fun h => Bool.noConfusion (hd.symm.trans (c8 h).2.1), c9, c10, c11, c12, fun h => ⟨(c13 h).1, (c13 h).2.1, Nat.lt_of_lt_of_le (c13 h).2.2.1 hb.size, fun h2 => ((c13 h).2.2.2 h2).later hb (c13 h).2.2.1⟩, c14, c15⟩
     simp only [putAll, Act.put, List.setIfInBounds_toArray, List.set_cons_zero, List.set_cons_succ]
     all_goals rfl
   | 8, _, hd, hk =>
     have h4 : d 4 = true := hk 4 (by decide +kernel)
     have h7 : d 7 = true := hk 7 (by decide +kernel)
     obtain ⟨h2, hp4⟩ := c4 h4
     obtain ⟨hO, hne⟩ := hp4 hd
     obtain ⟨rfl, hp7, hl7⟩ := c7 h7
     have hw := hp7 hd
     obtain ⟨v9, w10, hrun, q1, q2, q3⟩ := run_append_own hO hB.size (byte_one hw Hcb.out) rfl (Nat.le_refl 1) Hroom1.out
     obtain ⟨hfine, happV, happW⟩ := fine_of hrun
     obtain ⟨A9, C9, ev, hC9, hB9⟩ := q1.form Hbig.out
     rw [Hlen.out] at ev hC9 hB9
     subst ev
     clear hrun
     apply wpOp_at
     case ho => rfl
     intro K hK
     simp only [putAll, Act.put, List.setIfInBounds_toArray, List.set_cons_zero, List.set_cons_succ]
     go_simp
     refine hK _ _ ⟨e0, e1, e2, e3, e4, e5, e6, .slice (some ⟨gz, 0, none⟩) 1 1, .slice A9 (M4 + 1) C9, e9, e10, e11, e12, e13, e15, P, gb, gz, ?_, hB.trans q2, c0, c1, fun _ h => absurd (h4.symm.trans h) (by decide), c3, fun _ => ⟨h2, fun h => Bool.noConfusion (show true = false from h)⟩, c5, c6, fun _ => ⟨rfl, fun h => Bool.noConfusion (show true = false from h), Nat.lt_of_lt_of_le hl7 q2.size⟩, fun _ => ⟨h4, h7, fun _ => ⟨A9, C9, rfl, hB9, hC9⟩⟩, fun h => Bool.noConfusion (hd.symm.trans (c9 h).1), c10, c11, c12, fun h => ⟨(c13 h).1, (c13 h).2.1, Nat.lt_of_lt_of_le (c13 h).2.2.1 q2.size, fun h14 => (q3.whole ((c13 h).2.2.2 h14) (own_not_book hO ((c13 h).2.2.2 h14))).1⟩, c14, c15⟩
     simp only [putAll, Act.put, List.setIfInBounds_toArray, List.set_cons_zero, List.set_cons_succ]
     all_goals rfl
   | 9, _, hd, hk =>
     have h0 : d 0 = true := hk 0 (by decide +kernel)
     have h1 : d 1 = true := hk 1 (by decide +kernel)
     have h8 : d 8 = true := hk 8 (by decide +kernel)
     obtain rfl := c0 h0
     obtain rfl := c1 h1
     obtain ⟨h4, h7, hp8⟩ := c8 h8
     obtain ⟨A3, C3, rfl, hB3, hC3⟩ := hp8 hd
     obtain ⟨e7r, hp7⟩ := c7 h7
     subst e7r
     apply wpOp_at
     case ho => rfl
     intro K hK
     simp only [putAll, Act.put, List.setIfInBounds_toArray, List.set_cons_zero, List.set_cons_succ]
     go_simp
     refine (Hmt2.out A3 C3 w' hB3 hC3).mono ?_
     rintro e w'' ⟨p', rfl, _, hb⟩
     refine hK _ _ ⟨(cfV ⟨nn, q, r, p, kk, cc⟩), (.int .i64 who), e2, e3, e4, e5, e6, .slice (some ⟨gz, 0, none⟩) 1 1, .slice A3 (M4 + 1) C3, .tuple #[bkAt bk0 p', .bool false], e10, e11, e12, e13, e15, p', gb, gz, ?_, hB.trans (hb.mono hB.size), c0, c1, fun _ h => absurd (h4.symm.trans h) (by decide), c3, fun h => ⟨(c4 h).1, fun h => absurd (h8.symm.trans h) (by decide)⟩, c5, c6, fun _ => ⟨rfl, fun h => absurd (h8.symm.trans h) (by decide), Nat.lt_of_lt_of_le hp7.2 hb.size⟩, fun _ => ⟨h4, h7, fun h => Bool.noConfusion (show true = false from h)⟩, fun _ => ⟨h8, rfl⟩, fun h => Bool.noConfusion (hd.symm.trans (c10 h).1), fun h => Bool.noConfusion (hd.symm.trans (c11 h).1), c12, fun h => ⟨(c13 h).1, (c13 h).2.1, Nat.lt_of_lt_of_le (c13 h).2.2.1 hb.size, fun h2 => ((c13 h).2.2.2 h2).later hb (c13 h).2.2.1⟩, c14, c15⟩
     simp only [putAll, Act.put, List.setIfInBounds_toArray, List.set_cons_zero, List.set_cons_succ]
     all_goals rfl
   | 10, _, hd, hk =>
     have h9 : d 9 = true := hk 9 (by decide +kernel)
     obtain ⟨h8, rfl⟩ := c9 h9
     obtain ⟨h4, h7, _⟩ := c8 h8
     obtain ⟨e7r, hp7⟩ := c7 h7
     subst e7r
     apply wpOp_at
     case ho => rfl
     intro K hK
     simp only [putAll, Act.put, List.setIfInBounds_toArray, List.set_cons_zero, List.set_cons_succ]
     go_simp
     refine hK _ _ ⟨e0, e1, e2, e3, e4, e5, e6, .slice (some ⟨gz, 0, none⟩) 1 1, e8, .tuple #[bkAt bk0 P, .bool false], .tuple #[bkAt bk0 P, .bool false], e11, e12, e13, e15, P, gb, gz, ?_, hB, c0, c1, c2, c3, c4, c5, c6, fun _ => ⟨rfl, hp7⟩, c8, fun _ => ⟨h8, rfl⟩, fun _ => ⟨h9, rfl⟩, c11, c12, c13, c14, c15⟩
     simp only [putAll, Act.put, List.setIfInBounds_toArray, List.set_cons_zero, List.set_cons_succ]
     all_goals rfl
   | 11, _, hd, hk =>
     have h10 : d 10 = true := hk 10 (by decide +kernel)
     obtain ⟨h9, rfl⟩ := c10 h10
     obtain ⟨h8, rfl⟩ := c9 h9
     obtain ⟨h4, h7, _⟩ := c8 h8
     obtain ⟨e7r, hp7⟩ := c7 h7
     subst e7r
     apply wpOp_at
     case ho => rfl
     intro K hK
     simp only [putAll, Act.put, List.setIfInBounds_toArray, List.set_cons_zero, List.set_cons_succ]
     go_simp
     refine hK _ _ ⟨e0, e1, e2, e3, e4, e5, e6, .slice (some ⟨gz, 0, none⟩) 1 1, e8, .tuple #[bkAt bk0 P, .bool false], .tuple #[bkAt bk0 P, .bool false], bkAt bk0 P, e12, e13, e15, P, gb, gz, ?_, hB, c0, c1, c2, c3, c4, c5, c6, fun _ => ⟨rfl, hp7⟩, c8, fun _ => ⟨h8, rfl⟩, fun _ => ⟨h9, rfl⟩, fun _ => ⟨h9, rfl⟩, c12, c13, c14, c15⟩
     simp only [putAll, Act.put, List.setIfInBounds_toArray, List.set_cons_zero, List.set_cons_succ]
     all_goals rfl
   | 12, _, hd, hk =>
     have h10 : d 10 = true := hk 10 (by decide +kernel)
     obtain ⟨h9, rfl⟩ := c10 h10
     obtain ⟨h8, rfl⟩ := c9 h9
     obtain ⟨h4, h7, _⟩ := c8 h8
     obtain ⟨e7r, hp7⟩ := c7 h7
     subst e7r
     apply wpOp_at
     case ho => rfl
     intro K hK
     simp only [putAll, Act.put, List.setIfInBounds_toArray, List.set_cons_zero, List.set_cons_succ]
     go_simp
     refine hK _ _ ⟨e0, e1, e2, e3, e4, e5, e6, .slice (some ⟨gz, 0, none⟩) 1 1, e8, .tuple #[bkAt bk0 P, .bool false], .tuple #[bkAt bk0 P, .bool false], e11, .bool false, e13, e15, P, gb, gz, ?_, hB, c0, c1, c2, c3, c4, c5, c6, fun _ => ⟨rfl, hp7⟩, c8, fun _ => ⟨h8, rfl⟩, fun _ => ⟨h9, rfl⟩, c11, fun _ => rfl, c13, c14, c15⟩
     simp only [putAll, Act.put, List.setIfInBounds_toArray, List.set_cons_zero, List.set_cons_succ]
     all_goals rfl
   | 13, _, hd, hk =>
     have hb := below_box w' (.cells (bkCells bk0 (.slice none 0 0) (.slice none 0 0) (.slice none 0 0) (.slice none 0 0) (.slice none 0 0) (.slice none 0 0) (.slice none 0 0)) 37)
     apply wpOp_at
     case ho => rfl
     intro K hK
     simp only [putAll, Act.put, List.setIfInBounds_toArray, List.set_cons_zero, List.set_cons_succ]
     go_simp
     refine hK _ _ ⟨e0, e1, e2, e3, e4, e5, e6, e7, e8, e9, e10, e11, e12, .pointer (some ⟨w'.heap.size, 0, none⟩), e15, P, w'.heap.size, gz, ?_, hB.trans (hb.mono hB.size), c0, c1, fun h h4 => ⟨((c2 h) h4).1.later hb, ((c2 h) h4).2⟩, c3, fun h => ⟨(c4 h).1, fun h8 => ⟨((c4 h).2 h8).1.later hb, ((c4 h).2 h8).2⟩⟩, c5, c6, fun h => ⟨(c7 h).1, fun h8 => ((c7 h).2.1 h8).later hb ((c7 h).2.1 h8).lt, Nat.lt_of_lt_of_le (c7 h).2.2 hb.size⟩, fun h => ⟨(c8 h).1, (c8 h).2.1, fun h9 => by
      obtain ⟨A, C, e, hb3, hc⟩ := (c8 h).2.2 h9
      exact ⟨A, C, e, hb3.later hb, hc⟩⟩, c9, c10, c11, c12, fun _ => ⟨rfl, hB.size, by simp, fun _ => Whole.made w' _ _⟩, fun h => Bool.noConfusion (hd.symm.trans (c14 h)), c15⟩
     simp only [putAll, Act.put, List.setIfInBounds_toArray, List.set_cons_zero, List.set_cons_succ]
     all_goals rfl
   | 14, _, hd, hk =>
     have h11 : d 11 = true := hk 11 (by decide +kernel)
     have h13 : d 13 = true := hk 13 (by decide +kernel)
     obtain ⟨h9, rfl⟩ := c11 h11
     obtain ⟨h8, rfl⟩ := c9 h9
     obtain ⟨h4, h7, _⟩ := c8 h8
     obtain ⟨e7r, hp7⟩ := c7 h7
     subst e7r
     obtain ⟨rfl, hgb, hgl, hw0⟩ := c13 h13
     have hZ := hw0 hd
     have y0 := hZ.free 0
     have y1 := hZ.free 1
     have y2 := hZ.free 2
     have y3 := hZ.free 3
     have y4 := hZ.free 4
     have y5 := hZ.free 5
     have y6 := hZ.free 6
     have y7 := hZ.free 7
     have y8 := hZ.free 8
     have y9 := hZ.free 9
     have y10 := hZ.free 10
     have y11 := hZ.free 11
     obtain ⟨⟨z0, z1, z2, z3⟩, ⟨z4, z5, z6, z7⟩, z8, z9, z10, z11⟩ := bk_cells hZ
     have hlb := bk12_below (g := gb) (x := bk0) (rv := .slice P.a1 P.m1 P.c1) (lv := .slice P.a2 P.m2 P.c2) (ov := .slice P.a3 P.m3 P.c3) (nv := .slice P.a4 P.m4 P.c4) (tv := .slice P.al.a1 P.al.m1 P.al.c1) (uv := .slice P.al.a2 P.al.m2 P.al.c2) (iv := .slice P.al.a3 P.al.m3 P.al.c3) (Below.refl gb w') (Nat.le_refl _)
     apply wpOp_at
     case ho => rfl
     intro K hK
     simp only [putAll, Act.put, List.setIfInBounds_toArray, List.set_cons_zero, List.set_cons_succ]
     go_simp
     refine hK _ _ ⟨e0, e1, e2, e3, e4, e5, e6, .slice (some ⟨gz, 0, none⟩) 1 1, e8, .tuple #[bkAt bk0 P, .bool false], e10, bkAt bk0 P, e12, .pointer (some ⟨gb, 0, none⟩), e15, P, gb, gz, ?_, bk12_below (g := gb) (x := bk0) (rv := .slice P.a1 P.m1 P.c1) (lv := .slice P.a2 P.m2 P.c2) (ov := .slice P.a3 P.m3 P.c3) (nv := .slice P.a4 P.m4 P.c4) (tv := .slice P.al.a1 P.al.m1 P.al.c1) (uv := .slice P.al.a2 P.al.m2 P.al.c2) (iv := .slice P.al.a3 P.al.m3 P.al.c3) hB hgb, c0, c1, fun _ h => absurd (h4.symm.trans h) (by decide), c3, fun h => ⟨(c4 h).1, fun h => absurd (h8.symm.trans h) (by decide)⟩, c5, c6, fun _ => ⟨rfl, fun h => absurd (h8.symm.trans h) (by decide), Nat.lt_of_lt_of_le hp7.2 hlb.size⟩, fun h => ⟨h4, h7, fun h => absurd (h9.symm.trans h) (by decide)⟩, fun _ => ⟨h8, rfl⟩, c10, fun _ => ⟨h9, rfl⟩, c12, fun _ => ⟨rfl, hgb, Nat.lt_of_lt_of_le hgl hlb.size, fun h => Bool.noConfusion (show true = false from h)⟩, fun _ => h13, c15⟩
     simp only [putAll, Act.put, List.setIfInBounds_toArray, List.set_cons_zero, List.set_cons_succ]
     all_goals rfl
   | 15, _, hd, hk =>
     have h12 : d 12 = true := hk 12 (by decide +kernel)
     obtain rfl := c12 h12
     apply wpOp_at
     case ho => rfl
     intro K hK
     simp only [putAll, Act.put, List.setIfInBounds_toArray, List.set_cons_zero, List.set_cons_succ]
     go_simp
     refine hK _ _ ⟨e0, e1, e2, e3, e4, e5, e6, e7, e8, e9, e10, e11, .bool false, e13, .bool false, P, gb, gz, ?_, hB, c0, c1, c2, c3, c4, c5, c6, c7, c8, c9, c10, c11, fun _ => rfl, c13, c14, fun _ => rfl⟩
     simp only [putAll, Act.put, List.setIfInBounds_toArray, List.set_cons_zero, List.set_cons_succ]
     all_goals rfl
   | k + 16, hi, _, _ => exact absurd hi (by simp)
  case ends =>
   intro d a' w12 hJ hall
   obtain ⟨e0, e1, e2, e3, e4, e5, e6, e7, e8, e9, e10, e11, e12, e13, e15, P, gb, gz, rfl, hC⟩ := hJ
   obtain ⟨hB, hC⟩ := hC
   obtain ⟨c0, hC⟩ := hC
   obtain ⟨c1, hC⟩ := hC
   obtain ⟨c2, hC⟩ := hC
   obtain ⟨c3, hC⟩ := hC
   obtain ⟨c4, hC⟩ := hC
   obtain ⟨c5, hC⟩ := hC
   obtain ⟨c6, hC⟩ := hC
   obtain ⟨c7, hC⟩ := hC
   obtain ⟨c8, hC⟩ := hC
   obtain ⟨c9, hC⟩ := hC
   obtain ⟨c10, hC⟩ := hC
   obtain ⟨c11, hC⟩ := hC
   obtain ⟨c12, hC⟩ := hC
   obtain ⟨c13, hC⟩ := hC
   obtain ⟨c14, hC⟩ := hC
   have c15 := hC
   clear hC
   obtain rfl := c15 (hall 15 (by decide +kernel))
   have Hbe := Lib.hid (held_next Hb9.out hB)
   clear c0 c1 c2 c3 c4 c5 c6 c7 c8 c9 c10 c11 c12 c13 c14 c15 hall hB
   simp only [putAll, Act.put, List.setIfInBounds_toArray, List.set_cons_zero, List.set_cons_succ]
   go_wp2_with fail
   go_ret
   exact ⟨by rfl, Hbe.out⟩
end Go.Proofs.YtnkgakhnlbifdaaGreat
