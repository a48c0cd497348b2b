/- Parts, as far as BookBackCards reaches them, of: BookBack. No law is proved here. -/
import Derived.Test.YtnkgakhnlbifdaaGreatBa7
import Derived.Test.YtnkgakhnlbifdaaGreatBa15
import Derived.Test.YtnkgakhnlbifdaaGreatBa16
import Derived.Test.YtnkgakhnlbifdaaGreatBa35
import Derived.Test.YtnkgakhnlbifdaaGreatBa14
import Derived.Test.YtnkgakhnlbifdaaGreatBa8
import Derived.Test.YtnkgakhnlbifdaaGreatBa9
import Derived.Deep.RegionHeld3
import Derived.Deep.QuietTactic
namespace Go.Proofs.YtnkgakhnlbifdaaGreat
open Go.RowKit
set_option maxRecDepth 100000 in
set_option maxHeartbeats 16000000 in
theorem bookback_law (c : Cf) (who : Int) (x : Bk) (pl : Bl) (hR : Reach x.rows) (w : World) (hM : BkIn w pl x) :
 Calls Tryz.prog 4 #[cfV c, .int .i64 who, bkAt x pl] w (Says w true) := by
 have HW := Lib.hid ((Whole.made w 23 (cfCells c)).alloc (.cells (bkAtC x pl) 37))
 have HX := Lib.hid (Whole.made2 w (.cells (cfCells c) 23) 37 (bkAtC x pl))
 have Hb0 := Lib.hid (below_two w (.cells (cfCells c) 23) (.cells (bkAtC x pl) 37))
 have HM := Lib.hid hM
 obtain ⟨sh, Hsh⟩ : ∃ z, Hid (shortK x pl = z) := ⟨_, Lib.hid rfl⟩
 have hcs := fun w hw => refkshort_calls x pl hR w hw
 rw [Hsh.out] at hcs
 have Hcs := Lib.hid hcs
 have HFw : Hid (sh = true → (bookBytes x).length ≤ 1000000) := fun h => book_few hM (Hsh.out.trans h)
 have HL : Hid (sh = true → (pl.m2 ≤ 40 ∧ pl.m3 ≤ 40 ∧ pl.m4 ≤ 40 ∧ pl.al.m1 ≤ 40 ∧ pl.al.m2 ≤ 40 ∧ pl.al.m3 ≤ 40) ∧ 10 * (allK x).length ≤ 140737488350000) := fun h => book_light hM (Hsh.out.trans h)
 clear hcs hM hR
 obtain ⟨nn, q, r, p, kk, cc⟩ := c
 obtain ⟨clk, rows, line, outs, asks, notes, ⟨tr, ph, told, use, inc, moved⟩⟩ := x
 obtain ⟨a1, m1, c1, a2, m2, c2, a3, m3, c3, a4, m4, c4, ⟨a5, m5, c5, a6, m6, c6, a7, m7, c7⟩⟩ := pl
 go_enter Tryz.func4, Tryz.ntmps4
 go_wp2_with fail
 refine (awake17 _).mono ?_
 rintro e w1 ⟨rfl, hb⟩
 have Hb1 := Lib.hid (held_next Hb0.out hb)
 have HW1 := Lib.hid (HW.out.later hb HW.out.lt)
 have HX1 := Lib.hid (HX.out.later hb HX.out.lt)
 clear hb HW HX Hb0
 obtain ⟨⟨z0, z1, z2, z3⟩, ⟨z4, z5, z6, z7⟩, z8, z9, z10, z11⟩ := bk_cells HX1.out
 simp only at z0 z1 z2 z3 z4 z5 z6 z7 z8 z9 z10 z11
 go_wp2_with fail
 refine (Hcs.out _ (HM.out.later Hb1.out)).mono ?_
 rintro e w2 ⟨rfl, hb⟩
 have Hb2 := Lib.hid (held_next Hb1.out hb)
 have HW2 := Lib.hid (HW1.out.later hb HW1.out.lt)
 have HX2 := Lib.hid (HX1.out.later hb HX1.out.lt)
 clear hb HW1 HX1 Hcs
 clear z0 z1 z2 z3 z4 z5 z6 z7 z8 z9 z10 z11
 cases sh with
 | false =>
   go_wp2_with fail
   go_ret
   exact ⟨by rfl, Hb2.out⟩
 | true =>
 obtain ⟨⟨z0, z1, z2, z3⟩, ⟨z4, z5, z6, z7⟩, z8, z9, z10, z11⟩ := bk_cells HX2.out
 simp only at z0 z1 z2 z3 z4 z5 z6 z7 z8 z9 z10 z11
 have Hl1 := Lib.hid (HL.out rfl).1
 have Hl2 := Lib.hid (HL.out rfl).2
 have HFb := Lib.hid (HFw.out rfl)
 clear HL HFw
 go_wp2_with fail
 refine (kPut_calls ⟨clk, rows, line, outs, asks, notes, ⟨tr, ph, told, use, inc, moved⟩⟩ ⟨a1, m1, c1, a2, m2, c2, a3, m3, c3, a4, m4, c4, ⟨a5, m5, c5, a6, m6, c6, a7, m7, c7⟩⟩ _ (HM.out.later Hb2.out) Hl1.out Hl2.out).mono ?_
 rintro e w3 ⟨v, rfl, hb, hF⟩
 obtain ⟨A3, M3, C3, rfl, hM3, hMC⟩ := hF.args
 have Hb3 := Lib.hid (held_next Hb2.out hb)
 have HW3 := Lib.hid (HW2.out.later hb HW2.out.lt)
 have HX3 := Lib.hid (HX2.out.later hb HX2.out.lt)
 have HBy := Lib.hid hF.bytes
 clear hb hF HW2 HX2
 clear z0 z1 z2 z3 z4 z5 z6 z7 z8 z9 z10 z11
 obtain ⟨zs, Hzs⟩ : ∃ z, Hid (bookBytes ⟨clk, rows, line, outs, asks, notes, ⟨tr, ph, told, use, inc, moved⟩⟩ = z) := ⟨_, Lib.hid rfl⟩
 rw [Hzs.out] at HBy hM3
 have HM3 := Lib.hid hM3
 clear hM3
 have hp := fun w hw => refkput_calls ⟨clk, rows, line, outs, asks, notes, ⟨tr, ph, told, use, inc, moved⟩⟩ ⟨a1, m1, c1, a2, m2, c2, a3, m3, c3, a4, m4, c4, ⟨a5, m5, c5, a6, m6, c6, a7, m7, c7⟩⟩ w hw Hl1.out Hl2.out
 rw [Hzs.out] at hp
 have Hp := Lib.hid (fun W (h : Below w3.heap.size w3 W) => hp W (HM.out.later (held_next Hb3.out h)))
 clear hp
 obtain ⟨mb, Hmb⟩ : ∃ z, Hid (bookB ⟨nn, q, r, p, kk, cc⟩ who ⟨clk, rows, line, outs, asks, notes, ⟨tr, ph, told, use, inc, moved⟩⟩ = z) := ⟨_, Lib.hid rfl⟩
 have hk := fun W (h : Below w3.heap.size w3 W) => kMay_calls ⟨nn, q, r, p, kk, cc⟩ who ⟨clk, rows, line, outs, asks, notes, ⟨tr, ph, told, use, inc, moved⟩⟩ ⟨a1, m1, c1, a2, m2, c2, a3, m3, c3, a4, m4, c4, ⟨a5, m5, c5, a6, m6, c6, a7, m7, c7⟩⟩ W (HM.out.later (held_next Hb3.out h))
 have hr := fun W (h : Below w3.heap.size w3 W) => refkmay_calls ⟨nn, q, r, p, kk, cc⟩ who ⟨clk, rows, line, outs, asks, notes, ⟨tr, ph, told, use, inc, moved⟩⟩ ⟨a1, m1, c1, a2, m2, c2, a3, m3, c3, a4, m4, c4, ⟨a5, m5, c5, a6, m6, c6, a7, m7, c7⟩⟩ W (HM.out.later (held_next Hb3.out h))
 rw [Hmb.out] at hk hr
 have Hk := Lib.hid hk; have Hrm := Lib.hid hr
 clear hk hr
 obtain ⟨bd, Hbd⟩ : ∃ z, Hid (boundV ⟨nn, q, r, p, kk, cc⟩ = z) := ⟨_, Lib.hid rfl⟩
 have hkb := fun W => kBound_calls ⟨nn, q, r, p, kk, cc⟩ W
 have hrb := fun W => refkbound_calls ⟨nn, q, r, p, kk, cc⟩ W
 rw [Hbd.out] at hkb hrb
 have Hkb := Lib.hid hkb; have Hrb := Lib.hid hrb
 clear hkb hrb
 have hbig : M3 ≤ 9223372036854775807 := by rw [HM3.out]; exact HBy.out.1
 have KP : Hid (∀ w', Below w3.heap.size w3 w' → Below w3.heap.size w3 w' ∧ (convert 24 9 (.slice A3 M3 C3)).run Tryz.prog w' = .ok (.string (strOfNums zs)) w' ∧ (w'.cell? ⟨w.heap.size, 0, none⟩ = some (.int .i64 nn) ∧ w'.cell? ⟨w.heap.size, 1, none⟩ = some (.int .i64 q) ∧ w'.cell? ⟨w.heap.size, 2, none⟩ = some (.int .i64 r) ∧ w'.cell? ⟨w.heap.size, 3, none⟩ = some (.int .i64 p) ∧ w'.cell? ⟨w.heap.size, 4, none⟩ = some (.int .i64 kk) ∧ w'.cell? ⟨w.heap.size, 5, none⟩ = some (.int .i64 cc)) ∧ ((w'.cell? ⟨w.heap.size + 1, 0, none⟩ = some (.int .i64 clk) ∧ w'.cell? ⟨w.heap.size + 1, 1, none⟩ = some (.slice a1 m1 c1) ∧ w'.cell? ⟨w.heap.size + 1, 2, none⟩ = some (.slice a2 m2 c2) ∧ w'.cell? ⟨w.heap.size + 1, 3, none⟩ = some (.slice a3 m3 c3)) ∧ (w'.cell? ⟨w.heap.size + 1, 4, none⟩ = some (.int .i64 asks) ∧ w'.cell? ⟨w.heap.size + 1, 5, none⟩ = some (.slice a4 m4 c4) ∧ w'.cell? ⟨w.heap.size + 1, 6, none⟩ = some (.int .i64 tr) ∧ w'.cell? ⟨w.heap.size + 1, 7, none⟩ = some (.int .i64 ph)) ∧ (w'.cell? ⟨w.heap.size + 1, 8, none⟩ = some (.slice a5 m5 c5) ∧ w'.cell? ⟨w.heap.size + 1, 9, none⟩ = some (.slice a6 m6 c6) ∧ w'.cell? ⟨w.heap.size + 1, 10, none⟩ = some (.slice a7 m7 c7) ∧ w'.cell? ⟨w.heap.size + 1, 11, none⟩ = some (.bool moved)))) :=
  fun w' h => ⟨h, str_any (HBy.out.later h), config_cells (HW3.out.later h HW3.out.lt), bk_cells (HX3.out.later h HX3.out.lt)⟩
 cases mb with
 | false =>
   go_wp2_with fail
   go_region_held (fun w' => Below w3.heap.size w3 w' ∧ (convert 24 9 (.slice A3 M3 C3)).run Tryz.prog w' = .ok (.string (strOfNums zs)) w' ∧ (w'.cell? ⟨w.heap.size, 0, none⟩ = some (.int .i64 nn) ∧ w'.cell? ⟨w.heap.size, 1, none⟩ = some (.int .i64 q) ∧ w'.cell? ⟨w.heap.size, 2, none⟩ = some (.int .i64 r) ∧ w'.cell? ⟨w.heap.size, 3, none⟩ = some (.int .i64 p) ∧ w'.cell? ⟨w.heap.size, 4, none⟩ = some (.int .i64 kk) ∧ w'.cell? ⟨w.heap.size, 5, none⟩ = some (.int .i64 cc)) ∧ ((w'.cell? ⟨w.heap.size + 1, 0, none⟩ = some (.int .i64 clk) ∧ w'.cell? ⟨w.heap.size + 1, 1, none⟩ = some (.slice a1 m1 c1) ∧ w'.cell? ⟨w.heap.size + 1, 2, none⟩ = some (.slice a2 m2 c2) ∧ w'.cell? ⟨w.heap.size + 1, 3, none⟩ = some (.slice a3 m3 c3)) ∧ (w'.cell? ⟨w.heap.size + 1, 4, none⟩ = some (.int .i64 asks) ∧ w'.cell? ⟨w.heap.size + 1, 5, none⟩ = some (.slice a4 m4 c4) ∧ w'.cell? ⟨w.heap.size + 1, 6, none⟩ = some (.int .i64 tr) ∧ w'.cell? ⟨w.heap.size + 1, 7, none⟩ = some (.int .i64 ph)) ∧ (w'.cell? ⟨w.heap.size + 1, 8, none⟩ = some (.slice a5 m5 c5) ∧ w'.cell? ⟨w.heap.size + 1, 9, none⟩ = some (.slice a6 m6 c6) ∧ w'.cell? ⟨w.heap.size + 1, 10, none⟩ = some (.slice a7 m7 c7) ∧ w'.cell? ⟨w.heap.size + 1, 11, none⟩ = some (.bool moved))))
    (first | exact KP.out _ (Below.refl _ _).drew | (refine KP.out _ ?_; assumption))
    (first | (go_at_call 12; have hcur := (‹Below w3.heap.size w3 _ ∧ _ ∧ _›).1; refine (Hp.out _ hcur).mono ?_; rintro x4 W4 ⟨v4, rfl, hb4, hF4⟩; have hS4 : Below w3.heap.size w3 W4 := held_next hcur hb4; have hcv4 := str_any hF4.bytes) | (go_at_call 13; have hcur := (‹Below w3.heap.size w3 _ ∧ _ ∧ _›).1; refine (Hk.out _ hcur).mono ?_; rintro x5 W5 ⟨rfl, hb5⟩; have hS5 : Below w3.heap.size w3 W5 := held_next hcur hb5) | (go_at_call 14; have hcur := (‹Below w3.heap.size w3 _ ∧ _ ∧ _›).1; refine (Hrm.out _ hcur).mono ?_; rintro x6 W6 ⟨rfl, hb6⟩; have hS6 : Below w3.heap.size w3 W6 := held_next hcur hb6) | (go_at_call 15; have hcur := (‹Below w3.heap.size w3 _ ∧ _ ∧ _›).1; refine (Hkb.out _).mono ?_; rintro x7 W7 ⟨rfl, hb7⟩; have hS7 : Below w3.heap.size w3 W7 := held_next hcur hb7) | (go_at_call 16; have hcur := (‹Below w3.heap.size w3 _ ∧ _ ∧ _›).1; refine (Hrb.out _).mono ?_; rintro x8 W8 ⟨rfl, hb8⟩; have hS8 : Below w3.heap.size w3 W8 := held_next hcur hb8))
   have Hb8 := Lib.hid (held_next Hb3.out hS8)
   have HW8 := Lib.hid (HW3.out.later hS8 HW3.out.lt)
   have HX8 := Lib.hid (HX3.out.later hS8 HX3.out.lt)
   have HBy8 := Lib.hid (HBy.out.later hS8)
   have HS8 := Lib.hid hS8
   clear hS4 hS5 hS6 hS7 hS8 hb4 hb5 hb6 hb7 hb8 hF4 hcv4 KP Hp Hk Hrb HBy HW3 HX3
   obtain ⟨d0, d1, d2, d3, d4, d5⟩ := config_cells HW8.out
   simp only at d0 d1 d2 d3 d4 d5
   obtain ⟨⟨z0, z1, z2, z3⟩, ⟨z4, z5, z6, z7⟩, z8, z9, z10, z11⟩ := bk_cells HX8.out
   simp only at z0 z1 z2 z3 z4 z5 z6 z7 z8 z9 z10 z11
   go_wp2_with fail
   refine (Hrm.out _ HS8.out).mono ?_
   rintro e w9 ⟨rfl, hb⟩
   have Hb9 := Lib.hid (held_next Hb8.out hb)
   have HW9 := Lib.hid (HW8.out.later hb HW8.out.lt)
   have HX9 := Lib.hid (HX8.out.later hb HX8.out.lt)
   have HBy9 := Lib.hid (HBy8.out.later hb)
   clear hb d0 d1 d2 d3 d4 d5 HW8 HX8 HBy8
   clear z0 z1 z2 z3 z4 z5 z6 z7 z8 z9 z10 z11
   go_wp2_with fail
   go_ret
   exact ⟨by rfl, Hb9.out⟩
 | true =>
   go_wp2_with fail
   go_region_held (fun w' => Below w3.heap.size w3 w' ∧ (convert 24 9 (.slice A3 M3 C3)).run Tryz.prog w' = .ok (.string (strOfNums zs)) w' ∧ (w'.cell? ⟨w.heap.size, 0, none⟩ = some (.int .i64 nn) ∧ w'.cell? ⟨w.heap.size, 1, none⟩ = some (.int .i64 q) ∧ w'.cell? ⟨w.heap.size, 2, none⟩ = some (.int .i64 r) ∧ w'.cell? ⟨w.heap.size, 3, none⟩ = some (.int .i64 p) ∧ w'.cell? ⟨w.heap.size, 4, none⟩ = some (.int .i64 kk) ∧ w'.cell? ⟨w.heap.size, 5, none⟩ = some (.int .i64 cc)) ∧ ((w'.cell? ⟨w.heap.size + 1, 0, none⟩ = some (.int .i64 clk) ∧ w'.cell? ⟨w.heap.size + 1, 1, none⟩ = some (.slice a1 m1 c1) ∧ w'.cell? ⟨w.heap.size + 1, 2, none⟩ = some (.slice a2 m2 c2) ∧ w'.cell? ⟨w.heap.size + 1, 3, none⟩ = some (.slice a3 m3 c3)) ∧ (w'.cell? ⟨w.heap.size + 1, 4, none⟩ = some (.int .i64 asks) ∧ w'.cell? ⟨w.heap.size + 1, 5, none⟩ = some (.slice a4 m4 c4) ∧ w'.cell? ⟨w.heap.size + 1, 6, none⟩ = some (.int .i64 tr) ∧ w'.cell? ⟨w.heap.size + 1, 7, none⟩ = some (.int .i64 ph)) ∧ (w'.cell? ⟨w.heap.size + 1, 8, none⟩ = some (.slice a5 m5 c5) ∧ w'.cell? ⟨w.heap.size + 1, 9, none⟩ = some (.slice a6 m6 c6) ∧ w'.cell? ⟨w.heap.size + 1, 10, none⟩ = some (.slice a7 m7 c7) ∧ w'.cell? ⟨w.heap.size + 1, 11, none⟩ = some (.bool moved))))
    (first | exact KP.out _ (Below.refl _ _).drew | (refine KP.out _ ?_; assumption))
    (first | (go_at_call 12; have hcur := (‹Below w3.heap.size w3 _ ∧ _ ∧ _›).1; refine (Hp.out _ hcur).mono ?_; rintro x4 W4 ⟨v4, rfl, hb4, hF4⟩; have hS4 : Below w3.heap.size w3 W4 := held_next hcur hb4; have hcv4 := str_any hF4.bytes) | (go_at_call 13; have hcur := (‹Below w3.heap.size w3 _ ∧ _ ∧ _›).1; refine (Hk.out _ hcur).mono ?_; rintro x5 W5 ⟨rfl, hb5⟩; have hS5 : Below w3.heap.size w3 W5 := held_next hcur hb5) | (go_at_call 14; have hcur := (‹Below w3.heap.size w3 _ ∧ _ ∧ _›).1; refine (Hrm.out _ hcur).mono ?_; rintro x6 W6 ⟨rfl, hb6⟩; have hS6 : Below w3.heap.size w3 W6 := held_next hcur hb6) | (go_at_call 15; have hcur := (‹Below w3.heap.size w3 _ ∧ _ ∧ _›).1; refine (Hkb.out _).mono ?_; rintro x7 W7 ⟨rfl, hb7⟩; have hS7 : Below w3.heap.size w3 W7 := held_next hcur hb7) | (go_at_call 16; have hcur := (‹Below w3.heap.size w3 _ ∧ _ ∧ _›).1; refine (Hrb.out _).mono ?_; rintro x8 W8 ⟨rfl, hb8⟩; have hS8 : Below w3.heap.size w3 W8 := held_next hcur hb8))
   have Hb8 := Lib.hid (held_next Hb3.out hS8)
   have HW8 := Lib.hid (HW3.out.later hS8 HW3.out.lt)
   have HX8 := Lib.hid (HX3.out.later hS8 HX3.out.lt)
   have HBy8 := Lib.hid (HBy.out.later hS8)
   have HS8 := Lib.hid hS8
   clear hS4 hS5 hS6 hS7 hS8 hb4 hb5 hb6 hb7 hb8 hF4 hcv4 KP Hp Hk Hrb HBy HW3 HX3
   obtain ⟨d0, d1, d2, d3, d4, d5⟩ := config_cells HW8.out
   simp only at d0 d1 d2 d3 d4 d5
   obtain ⟨⟨z0, z1, z2, z3⟩, ⟨z4, z5, z6, z7⟩, z8, z9, z10, z11⟩ := bk_cells HX8.out
   simp only at z0 z1 z2 z3 z4 z5 z6 z7 z8 z9 z10 z11
   go_wp2_with fail
   refine (Hrm.out _ HS8.out).mono ?_
   rintro e w9 ⟨rfl, hb⟩
   have Hb9 := Lib.hid (held_next Hb8.out hb)
   have HW9 := Lib.hid (HW8.out.later hb HW8.out.lt)
   have HX9 := Lib.hid (HX8.out.later hb HX8.out.lt)
   have HBy9 := Lib.hid (HBy8.out.later hb)
   clear hb d0 d1 d2 d3 d4 d5 HW8 HX8 HBy8
   clear z0 z1 z2 z3 z4 z5 z6 z7 z8 z9 z10 z11
   have hok : bookOk ⟨nn, q, r, p, kk, cc⟩ who ⟨clk, rows, line, outs, asks, notes, ⟨tr, ph, told, use, inc, moved⟩⟩ := of_decide_eq_true Hmb.out
   have hbnd := book_bound hok
   have hlen := book_len hok
   have hn16 : nn.toNat ≤ 16 := by have h9 : nn ≤ 16 := hok.1.1.2.1; omega
   have hq8 : q.toNat ≤ 8 := by have h9 : q ≤ 8 := hok.1.1.2.2.2.1; omega
   have h3 : nn.toNat * (nn.toNat + 12) ≤ 16 * 28 := Nat.mul_le_mul hn16 (by omega)
   rw [Hbd.out, Hzs.out, ← HM3.out] at hbnd
   rw [Hzs.out, ← HM3.out] at hlen
   simp only at hlen
   obtain ⟨sz, Hsz⟩ : ∃ z, Hid (sizeV (M3 : Int) = z) := ⟨_, Lib.hid rfl⟩
   have hsz : sz = (PackMath.num M3).length + M3 + 4 := by rw [← Hsz.out]; unfold sizeV FrameMath.sizeN; rw [Int.toNat_natCast]
   have hM9 : (M3 : Int) ≤ 1000000000 := by omega
   have hl2 : 2 * (sz : Int) ≤ bd := by omega
   have hbd : bd ≤ 1000000000 := by
    rw [← Hbd.out]
    unfold boundV
    rw [if_pos hok.1.1]
    have e1 : nn = ((nn.toNat : Nat) : Int) := by have h9 : 1 ≤ nn := hok.1.1.1; omega
    have e2 : nn * (nn + 12) = (((nn.toNat * (nn.toNat + 12) : Nat)) : Int) := by rw [e1]; push_cast; rfl
    show 16 * (nn * (nn + 12) + 6 * q + 20) ≤ 1000000000
    rw [e2]
    have h9 : q ≤ 8 := hok.1.1.2.2.2.1
    omega
   have s1 : IntKind.i64.wrap (2 * (sz : Int)) = 2 * (sz : Int) := IntWalk.i64_in _ (by omega)
   have s2 : decide (2 * (sz : Int) ≤ bd) = true := decide_eq_true hl2
   have hsi := fun W => refsize_calls (M3 : Int) W hM9
   rw [Hsz.out] at hsi
   have Hsi := Lib.hid hsi
   have Hl2' := Lib.hid hl2
   have Hok := Lib.hid hok
   clear hbnd hlen hn16 hq8 h3 hsz hM9 hbd hsi hok Hrm
   have htk : takeK ⟨nn, q, r, p, kk, cc⟩ who zs = some ⟨clk, rows, line, outs, asks, notes, ⟨tr, ph, told, use, inc, moved⟩⟩ := takeK_yes ⟨Hok.out, Hzs.out.symm⟩
   have hmt := (kTake_calls ⟨nn, q, r, p, kk, cc⟩ who A3 M3 C3 zs w9 HBy9.out HM3.out hMC (by rw [← Hzs.out]; exact Nat.le_trans HFb.out (by decide))).mono fun _ _ h => TookKH.took h
   rw [htk] at hmt
   have Hmt := Lib.hid hmt
   clear hmt htk hMC
   obtain ⟨d0, d1, d2, d3, d4, d5⟩ := config_cells HW9.out
   simp only at d0 d1 d2 d3 d4 d5
   go_wp2_with fail
   refine Hmt.out.mono ?_
   rintro e w10 ⟨p9, he, hK, hb⟩
   obtain rfl : e = .returned (.tuple #[bkAt ⟨clk, rows, line, outs, asks, notes, ⟨tr, ph, told, use, inc, moved⟩⟩ p9, .bool true]) := he
   have hK2 : BkIn w10 p9 ⟨clk, rows, line, outs, asks, notes, ⟨tr, ph, told, use, inc, moved⟩⟩ := hK
   clear hK Hmt d0 d1 d2 d3 d4 d5
   go_wp2_with fail
   have hbx := held_next hb (below_box w10 (.cells (bkAtC ⟨clk, rows, line, outs, asks, notes, ⟨tr, ph, told, use, inc, moved⟩⟩ p9) 37))
   have HY11 := Lib.hid (Whole.made w10 37 (bkAtC ⟨clk, rows, line, outs, asks, notes, ⟨tr, ph, told, use, inc, moved⟩⟩ p9))
   have HK11 := Lib.hid (hK2.later (below_box w10 (.cells (bkAtC ⟨clk, rows, line, outs, asks, notes, ⟨tr, ph, told, use, inc, moved⟩⟩ p9) 37)))
   have HW11 := Lib.hid (HW9.out.later hbx HW9.out.lt)
   have HX11 := Lib.hid (HX9.out.later hbx HX9.out.lt)
   have Hb11 := Lib.hid (held_next Hb9.out hbx)
   show Code.wp _ _ _ _ (w10.alloc (.cells (bkAtC ⟨clk, rows, line, outs, asks, notes, ⟨tr, ph, told, use, inc, moved⟩⟩ p9) 37))
   obtain ⟨w11, hw11⟩ : ∃ z, w10.alloc (.cells (bkAtC ⟨clk, rows, line, outs, asks, notes, ⟨tr, ph, told, use, inc, moved⟩⟩ p9) 37) = z := ⟨_, rfl⟩
   rw [hw11] at HY11 HK11 HW11 HX11 Hb11 ⊢
   clear hw11 hb hbx hK2 HW9 HX9
   have Hsm := Lib.hid (fun W (h : Below w11.heap.size w11 W) => refksame_calls ⟨clk, rows, line, outs, asks, notes, ⟨tr, ph, told, use, inc, moved⟩⟩ ⟨clk, rows, line, outs, asks, notes, ⟨tr, ph, told, use, inc, moved⟩⟩ p9 ⟨a1, m1, c1, a2, m2, c2, a3, m3, c3, a4, m4, c4, ⟨a5, m5, c5, a6, m6, c6, a7, m7, c7⟩⟩ W (HK11.out.later h) (HM.out.later (held_next Hb11.out h)) true (iff_of_true rfl rfl))
   have KP : Hid (∀ w', Below w11.heap.size w11 w' → Below w11.heap.size w11 w' ∧ (w'.cell? ⟨w.heap.size, 0, none⟩ = some (.int .i64 nn) ∧ w'.cell? ⟨w.heap.size, 1, none⟩ = some (.int .i64 q) ∧ w'.cell? ⟨w.heap.size, 2, none⟩ = some (.int .i64 r) ∧ w'.cell? ⟨w.heap.size, 3, none⟩ = some (.int .i64 p) ∧ w'.cell? ⟨w.heap.size, 4, none⟩ = some (.int .i64 kk) ∧ w'.cell? ⟨w.heap.size, 5, none⟩ = some (.int .i64 cc)) ∧ ((w'.cell? ⟨w.heap.size + 1, 0, none⟩ = some (.int .i64 clk) ∧ w'.cell? ⟨w.heap.size + 1, 1, none⟩ = some (.slice a1 m1 c1) ∧ w'.cell? ⟨w.heap.size + 1, 2, none⟩ = some (.slice a2 m2 c2) ∧ w'.cell? ⟨w.heap.size + 1, 3, none⟩ = some (.slice a3 m3 c3)) ∧ (w'.cell? ⟨w.heap.size + 1, 4, none⟩ = some (.int .i64 asks) ∧ w'.cell? ⟨w.heap.size + 1, 5, none⟩ = some (.slice a4 m4 c4) ∧ w'.cell? ⟨w.heap.size + 1, 6, none⟩ = some (.int .i64 tr) ∧ w'.cell? ⟨w.heap.size + 1, 7, none⟩ = some (.int .i64 ph)) ∧ (w'.cell? ⟨w.heap.size + 1, 8, none⟩ = some (.slice a5 m5 c5) ∧ w'.cell? ⟨w.heap.size + 1, 9, none⟩ = some (.slice a6 m6 c6) ∧ w'.cell? ⟨w.heap.size + 1, 10, none⟩ = some (.slice a7 m7 c7) ∧ w'.cell? ⟨w.heap.size + 1, 11, none⟩ = some (.bool moved))) ∧ ((w'.cell? ⟨w10.heap.size, 0, none⟩ = some (.int .i64 clk) ∧ w'.cell? ⟨w10.heap.size, 1, none⟩ = some (.slice p9.a1 p9.m1 p9.c1) ∧ w'.cell? ⟨w10.heap.size, 2, none⟩ = some (.slice p9.a2 p9.m2 p9.c2) ∧ w'.cell? ⟨w10.heap.size, 3, none⟩ = some (.slice p9.a3 p9.m3 p9.c3)) ∧ (w'.cell? ⟨w10.heap.size, 4, none⟩ = some (.int .i64 asks) ∧ w'.cell? ⟨w10.heap.size, 5, none⟩ = some (.slice p9.a4 p9.m4 p9.c4) ∧ w'.cell? ⟨w10.heap.size, 6, none⟩ = some (.int .i64 tr) ∧ w'.cell? ⟨w10.heap.size, 7, none⟩ = some (.int .i64 ph)) ∧ (w'.cell? ⟨w10.heap.size, 8, none⟩ = some (.slice p9.al.a1 p9.al.m1 p9.al.c1) ∧ w'.cell? ⟨w10.heap.size, 9, none⟩ = some (.slice p9.al.a2 p9.al.m2 p9.al.c2) ∧ w'.cell? ⟨w10.heap.size, 10, none⟩ = some (.slice p9.al.a3 p9.al.m3 p9.al.c3) ∧ w'.cell? ⟨w10.heap.size, 11, none⟩ = some (.bool moved)))) :=
    fun w' h => ⟨h, config_cells (HW11.out.later h HW11.out.lt), bk_cells (HX11.out.later h HX11.out.lt), bk_cells (HY11.out.later h HY11.out.lt)⟩
   go_region_held (fun w' => Below w11.heap.size w11 w' ∧ (w'.cell? ⟨w.heap.size, 0, none⟩ = some (.int .i64 nn) ∧ w'.cell? ⟨w.heap.size, 1, none⟩ = some (.int .i64 q) ∧ w'.cell? ⟨w.heap.size, 2, none⟩ = some (.int .i64 r) ∧ w'.cell? ⟨w.heap.size, 3, none⟩ = some (.int .i64 p) ∧ w'.cell? ⟨w.heap.size, 4, none⟩ = some (.int .i64 kk) ∧ w'.cell? ⟨w.heap.size, 5, none⟩ = some (.int .i64 cc)) ∧ ((w'.cell? ⟨w.heap.size + 1, 0, none⟩ = some (.int .i64 clk) ∧ w'.cell? ⟨w.heap.size + 1, 1, none⟩ = some (.slice a1 m1 c1) ∧ w'.cell? ⟨w.heap.size + 1, 2, none⟩ = some (.slice a2 m2 c2) ∧ w'.cell? ⟨w.heap.size + 1, 3, none⟩ = some (.slice a3 m3 c3)) ∧ (w'.cell? ⟨w.heap.size + 1, 4, none⟩ = some (.int .i64 asks) ∧ w'.cell? ⟨w.heap.size + 1, 5, none⟩ = some (.slice a4 m4 c4) ∧ w'.cell? ⟨w.heap.size + 1, 6, none⟩ = some (.int .i64 tr) ∧ w'.cell? ⟨w.heap.size + 1, 7, none⟩ = some (.int .i64 ph)) ∧ (w'.cell? ⟨w.heap.size + 1, 8, none⟩ = some (.slice a5 m5 c5) ∧ w'.cell? ⟨w.heap.size + 1, 9, none⟩ = some (.slice a6 m6 c6) ∧ w'.cell? ⟨w.heap.size + 1, 10, none⟩ = some (.slice a7 m7 c7) ∧ w'.cell? ⟨w.heap.size + 1, 11, none⟩ = some (.bool moved))) ∧ ((w'.cell? ⟨w10.heap.size, 0, none⟩ = some (.int .i64 clk) ∧ w'.cell? ⟨w10.heap.size, 1, none⟩ = some (.slice p9.a1 p9.m1 p9.c1) ∧ w'.cell? ⟨w10.heap.size, 2, none⟩ = some (.slice p9.a2 p9.m2 p9.c2) ∧ w'.cell? ⟨w10.heap.size, 3, none⟩ = some (.slice p9.a3 p9.m3 p9.c3)) ∧ (w'.cell? ⟨w10.heap.size, 4, none⟩ = some (.int .i64 asks) ∧ w'.cell? ⟨w10.heap.size, 5, none⟩ = some (.slice p9.a4 p9.m4 p9.c4) ∧ w'.cell? ⟨w10.heap.size, 6, none⟩ = some (.int .i64 tr) ∧ w'.cell? ⟨w10.heap.size, 7, none⟩ = some (.int .i64 ph)) ∧ (w'.cell? ⟨w10.heap.size, 8, none⟩ = some (.slice p9.al.a1 p9.al.m1 p9.al.c1) ∧ w'.cell? ⟨w10.heap.size, 9, none⟩ = some (.slice p9.al.a2 p9.al.m2 p9.al.c2) ∧ w'.cell? ⟨w10.heap.size, 10, none⟩ = some (.slice p9.al.a3 p9.al.m3 p9.al.c3) ∧ w'.cell? ⟨w10.heap.size, 11, none⟩ = some (.bool moved))))
    (first | exact KP.out _ (Below.refl _ _).drew | (refine KP.out _ ?_; assumption))
    (first | (go_at_call 9; have hcur := (‹Below w11.heap.size w11 _ ∧ _ ∧ _›).1; refine (Hsm.out _ hcur).mono ?_; rintro x12 W12 ⟨rfl, hb12⟩; have hS12 : Below w11.heap.size w11 W12 := held_next hcur hb12) | (go_at_call 17; have hcur := (‹Below w11.heap.size w11 _ ∧ _ ∧ _›).1; refine (Hsi.out _).mono ?_; rintro x13 W13 ⟨rfl, hb13⟩; have hS13 : Below w11.heap.size w11 W13 := held_next hcur hb13) | (go_at_call 15; have hcur := (‹Below w11.heap.size w11 _ ∧ _ ∧ _›).1; refine (Hkb.out _).mono ?_; rintro x14 W14 ⟨rfl, hb14⟩; have hS14 : Below w11.heap.size w11 W14 := held_next hcur hb14))
   have Hbe := Lib.hid (held_next Hb11.out hS14)
   clear hS12 hS13 hS14 hb12 hb13 hb14 KP
   go_wp2_with fail
   go_ret
   exact ⟨by first | rfl | (simp; done) | simp [s2], Hbe.out⟩
end Go.Proofs.YtnkgakhnlbifdaaGreat
