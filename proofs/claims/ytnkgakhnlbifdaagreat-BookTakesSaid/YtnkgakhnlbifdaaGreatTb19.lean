/- Parts, as far as BookTakesCards reaches them, of: RefBookTake. No law is proved here. -/
import Derived.Test.YtnkgakhnlbifdaaGreatTb6
import Derived.Test.YtnkgakhnlbifdaaGreatTb9
import Derived.Test.YtnkgakhnlbifdaaGreatTb10
import Derived.Test.YtnkgakhnlbifdaaGreatTb11
import Derived.Test.YtnkgakhnlbifdaaGreatTb12
import Derived.Test.YtnkgakhnlbifdaaGreatTb14
import Derived.Test.YtnkgakhnlbifdaaGreatTb18
namespace Go.Proofs.YtnkgakhnlbifdaaGreat
open Go.RowKit
attribute [local go_sem ↓] run_fine
set_option maxRecDepth 1000000 in
set_option maxHeartbeats 40000000 in
theorem refktake_calls (c : Cf) (who : Int) (a : Option Addr) (n d : Nat) (zs : List Int) (w : World) (hB : Bytes w (.slice a n d) zs) (hn : n = zs.length) (hnd : n ≤ d) :
 Calls Tryz.prog 8 #[cfV c, .int .i64 who, .slice a n d] w (TookK w (takeK c who zs)) := by
 have HK0 := Lib.hid (KeptT.made w c)
 have HB := Lib.hid hB; clear hB
 have Hn := Lib.hid hn; clear hn
 obtain ⟨nn, q, r, p, kk, cc⟩ := c
 obtain ⟨res, Hres⟩ : ∃ z, Hid (takeK ⟨nn, q, r, p, kk, cc⟩ who zs = z) := ⟨_, rfl⟩
 rw [Hres.out]
 go_enter Tryz.func8, Tryz.ntmps8
 go_wp2_with fail
 refine (refsome_far a n d zs 1 (by decide) Hn.out hnd _ (HB.out.later HK0.out.1)).mono ?_
 rintro e w1 (⟨hs, r1, A1, C1, B1, D1, hso, rfl, hNs, hBr, hD, hb, _⟩ | ⟨hso, rfl, hb⟩)
 rotate_left 1
 · have HK1 := Lib.hid (HK0.out.later hb)
   have HSo := Lib.hid hso
   clear hb hso HK0
   obtain rfl : res = none := Hres.out.symm.trans (takeK_1 HSo.out)
   have hz8 := HK1.out.2.2.2
   have hz6 := HK1.out.2.2.1
   obtain ⟨⟨p0, p1, p2, p3⟩, ⟨p4, p5, p6, p7⟩, p8, p9, p10, p11⟩ := bk_cells hz8
   obtain ⟨⟨q0, q1, q2, q3⟩, ⟨q4, q5, q6, q7⟩, q8, q9, q10, q11⟩ := bk_cells hz6
   simp only at p0 p4 p6 p7 p11 q0 q4 q6 q7 q11
   have fq := hz6.free
   have hl6 := hz6.lt
   have hl8 := hz8.lt
   have HZn := Lib.hid (bk12_whole (x := bk0) (rv := .slice none 0 0) (lv := .slice none 0 0) (ov := .slice none 0 0) (nv := .slice none 0 0) (tv := .slice none 0 0) (uv := .slice none 0 0) (iv := .slice none 0 0) hz6)
   have HTn := Lib.hid (took_none HK1.out.1)
   clear hz8 hz6
   go_wp2_with fail
   obtain ⟨⟨Z0, Z1, Z2, Z3⟩, ⟨Z4, Z5, Z6, Z7⟩, Z8, Z9, Z10, Z11⟩ := bk_cells HZn.out
   simp only [bk12] at Z0 Z1 Z2 Z3 Z4 Z5 Z6 Z7 Z8 Z9 Z10 Z11
   exact bodyPost_ret (v := .tuple #[.agg (bkCells bk0 (.slice none 0 0) (.slice none 0 0) (.slice none 0 0) (.slice none 0 0) (.slice none 0 0) (.slice none 0 0) (.slice none 0 0)), .bool false]) (by simp [results, Tryz.results8, go_sem, Z0, Z1, Z2, Z3, Z4, Z5, Z6, Z7, Z8, Z9, Z10, Z11]) rfl HTn.out
 have HK1 := Lib.hid (HK0.out.later hb)
 have HSo := Lib.hid hso
 have HNs := Lib.hid hNs
 have HBr := Lib.hid hBr
 clear hb hso hNs hBr HK0
 obtain ⟨d0, d1, d2, d3, d4, d5⟩ := config_cells HK1.out.2.1
 simp only at d0 d1 d2 d3 d4 d5
 obtain ⟨ok, Hok⟩ : ∃ z, Hid (cfB ⟨nn, q, r, p, kk, cc⟩ = z) := ⟨_, rfl⟩
 go_wp2_with fail
 refine (refcfg_calls ⟨nn, q, r, p, kk, cc⟩ _).mono ?_
 rw [Hok.out]
 rintro e w2 ⟨rfl, hb⟩
 have HK2 := Lib.hid (HK1.out.later hb)
 have HNs2 := Lib.hid (HNs.out.later hb)
 have HBr2 := Lib.hid (HBr.out.later hb)
 clear hb HK1 HNs HBr d0 d1 d2 d3 d4 d5
 cases ok with
 | false =>
   obtain rfl : res = none := Hres.out.symm.trans (takeK_cf fun h => by have h9 := cfB_yes h; rw [Hok.out] at h9; cases h9)
   have hz8 := HK2.out.2.2.2
   have hz6 := HK2.out.2.2.1
   obtain ⟨⟨p0, p1, p2, p3⟩, ⟨p4, p5, p6, p7⟩, p8, p9, p10, p11⟩ := bk_cells hz8
   obtain ⟨⟨q0, q1, q2, q3⟩, ⟨q4, q5, q6, q7⟩, q8, q9, q10, q11⟩ := bk_cells hz6
   simp only at p0 p4 p6 p7 p11 q0 q4 q6 q7 q11
   have fq := hz6.free
   have hl6 := hz6.lt
   have hl8 := hz8.lt
   have HZn := Lib.hid (bk12_whole (x := bk0) (rv := .slice none 0 0) (lv := .slice none 0 0) (ov := .slice none 0 0) (nv := .slice none 0 0) (tv := .slice none 0 0) (uv := .slice none 0 0) (iv := .slice none 0 0) hz6)
   have HTn := Lib.hid (took_none HK2.out.1)
   clear hz8 hz6
   go_wp2_with fail
   obtain ⟨⟨Z0, Z1, Z2, Z3⟩, ⟨Z4, Z5, Z6, Z7⟩, Z8, Z9, Z10, Z11⟩ := bk_cells HZn.out
   simp only [bk12] at Z0 Z1 Z2 Z3 Z4 Z5 Z6 Z7 Z8 Z9 Z10 Z11
   exact bodyPost_ret (v := .tuple #[.agg (bkCells bk0 (.slice none 0 0) (.slice none 0 0) (.slice none 0 0) (.slice none 0 0) (.slice none 0 0) (.slice none 0 0) (.slice none 0 0)), .bool false]) (by simp [results, Tryz.results8, go_sem, Z0, Z1, Z2, Z3, Z4, Z5, Z6, Z7, Z8, Z9, Z10, Z11]) rfl HTn.out
 | true =>
 have Hcf := Lib.hid (cfB_ok Hok.out)
 obtain ⟨d0, d1, d2, d3, d4, d5⟩ := config_cells HK2.out.2.1
 simp only at d0 d1 d2 d3 d4 d5
 go_wp2_with fail
 refine (refptake_far ⟨nn, q, r, p, kk, cc⟩ B1 r1.length D1 r1 _ HBr2.out rfl hD).mono ?_
 obtain ⟨k1, hk1⟩ := some_one HSo.out
 subst hk1
 rintro e w3 (⟨rows, r2, A2, C2, B2, D2, htb, rfl, hBk, hBr3, hD2, hb⟩ | ⟨htb, rfl, hb⟩)
 rotate_left 1
 · have HK3 := Lib.hid (HK2.out.later hb)
   have HTb := Lib.hid htb
   clear hb htb HK2 d0 d1 d2 d3 d4 d5
   obtain rfl : res = none := Hres.out.symm.trans (takeK_2 HSo.out HTb.out)
   have hz8 := HK3.out.2.2.2
   have hz6 := HK3.out.2.2.1
   obtain ⟨⟨p0, p1, p2, p3⟩, ⟨p4, p5, p6, p7⟩, p8, p9, p10, p11⟩ := bk_cells hz8
   obtain ⟨⟨q0, q1, q2, q3⟩, ⟨q4, q5, q6, q7⟩, q8, q9, q10, q11⟩ := bk_cells hz6
   simp only at p0 p4 p6 p7 p11 q0 q4 q6 q7 q11
   have fq := hz6.free
   have hl6 := hz6.lt
   have hl8 := hz8.lt
   have HZn := Lib.hid (bk12_whole (x := bk0) (rv := .slice none 0 0) (lv := .slice none 0 0) (ov := .slice none 0 0) (nv := .slice none 0 0) (tv := .slice none 0 0) (uv := .slice none 0 0) (iv := .slice none 0 0) hz6)
   have HTn := Lib.hid (took_none HK3.out.1)
   clear hz8 hz6
   go_wp2_with fail
   obtain ⟨⟨Z0, Z1, Z2, Z3⟩, ⟨Z4, Z5, Z6, Z7⟩, Z8, Z9, Z10, Z11⟩ := bk_cells HZn.out
   simp only [bk12] at Z0 Z1 Z2 Z3 Z4 Z5 Z6 Z7 Z8 Z9 Z10 Z11
   exact bodyPost_ret (v := .tuple #[.agg (bkCells bk0 (.slice none 0 0) (.slice none 0 0) (.slice none 0 0) (.slice none 0 0) (.slice none 0 0) (.slice none 0 0) (.slice none 0 0)), .bool false]) (by simp [results, Tryz.results8, go_sem, Z0, Z1, Z2, Z3, Z4, Z5, Z6, Z7, Z8, Z9, Z10, Z11]) rfl HTn.out
 have HK3 := Lib.hid (HK2.out.later hb)
 have HTb := Lib.hid htb
 have HNs3 := Lib.hid (HNs2.out.later hb)
 have HBf3 := Lib.hid hBk
 have Hw23 : Hid (w.heap.size + 1 < w2.heap.size) := HK2.out.2.2.1.lt
 have HBr3 := Lib.hid hBr3
 clear hb htb HK2 HNs2 HBr2 hBk hBr3 d0 d1 d2 d3 d4 d5
 obtain ⟨d0, d1, d2, d3, d4, d5⟩ := config_cells HK3.out.2.1
 simp only at d0 d1 d2 d3 d4 d5
 obtain ⟨b1, o1, rfl, _, c0⟩ := HNs3.out.at (i := 0) (by simp)
 replace c0 : w3.cell? ⟨b1, o1, none⟩ = some (.int .i64 (k1 : Int)) := by simpa using c0
 have hbx := below_box w3 (.cells (bkCells (bkX (k1 : Int) 0 0 0 false) (.slice A2 rows.length C2) nilV nilV nilV nilV nilV nilV) 37)
 have HX4 := Lib.hid (Whole.made w3 37 (bkCells (bkX (k1 : Int) 0 0 0 false) (.slice A2 rows.length C2) nilV nilV nilV nilV nilV nilV))
 have HK4 := Lib.hid (HK3.out.later hbx)
 have HBr4 := Lib.hid (HBr3.out.later hbx)
 have Hbx := Lib.hid hbx
 have hl0 := HK3.out.2.1.lt
 have hq8 : q ≤ 8 := Hcf.out.2.2.2.1
 clear hbx
 go_wp2_with fail
 refine (refcounted_calls B2 r2.length D2 r2 q 2 (by omega) (by decide) rfl hD2 _ HBr4.out).mono ?_
 rintro e w5 (⟨ls, r3, A3, C3, B3, D3, hct, rfl, hNl, hBr5, hD3, hb, hA3⟩ | ⟨hct, rfl, hb⟩)
 rotate_left 1
 · have HK5 := Lib.hid (HK4.out.later hb)
   have HCt := Lib.hid hct
   clear hb hct HK4 d0 d1 d2 d3 d4 d5 c0
   obtain rfl : res = none := Hres.out.symm.trans (takeK_3 HSo.out HTb.out HCt.out)
   have hz8 := HK5.out.2.2.2
   have hz6 := HK5.out.2.2.1
   obtain ⟨⟨p0, p1, p2, p3⟩, ⟨p4, p5, p6, p7⟩, p8, p9, p10, p11⟩ := bk_cells hz8
   obtain ⟨⟨q0, q1, q2, q3⟩, ⟨q4, q5, q6, q7⟩, q8, q9, q10, q11⟩ := bk_cells hz6
   simp only at p0 p4 p6 p7 p11 q0 q4 q6 q7 q11
   have fq := hz6.free
   have hl6 := hz6.lt
   have hl8 := hz8.lt
   have HZn := Lib.hid (bk12_whole (x := bk0) (rv := .slice none 0 0) (lv := .slice none 0 0) (ov := .slice none 0 0) (nv := .slice none 0 0) (tv := .slice none 0 0) (uv := .slice none 0 0) (iv := .slice none 0 0) hz6)
   have HTn := Lib.hid (took_none HK5.out.1)
   clear hz8 hz6
   go_wp2_with fail
   obtain ⟨⟨Z0, Z1, Z2, Z3⟩, ⟨Z4, Z5, Z6, Z7⟩, Z8, Z9, Z10, Z11⟩ := bk_cells HZn.out
   simp only [bk12] at Z0 Z1 Z2 Z3 Z4 Z5 Z6 Z7 Z8 Z9 Z10 Z11
   exact bodyPost_ret (v := .tuple #[.agg (bkCells bk0 (.slice none 0 0) (.slice none 0 0) (.slice none 0 0) (.slice none 0 0) (.slice none 0 0) (.slice none 0 0) (.slice none 0 0)), .bool false]) (by simp [results, Tryz.results8, go_sem, Z0, Z1, Z2, Z3, Z4, Z5, Z6, Z7, Z8, Z9, Z10, Z11]) rfl HTn.out
 have HK5 := Lib.hid (HK4.out.later hb)
 have HCt := Lib.hid hct
 have HX5 := Lib.hid (HX4.out.later hb HX4.out.lt)
 have HB35 := Lib.hid (held_next Hbx.out hb)
 have HBr5 := Lib.hid hBr5
 obtain ⟨aL, haq, -, hPl, -, -⟩ := countedN_some hct
 obtain ⟨M1, hM1⟩ : ∃ z, ls.length = z := ⟨_, rfl⟩
 rw [hM1] at hNl ⊢
 have HNl := Lib.hid hNl
 have HM1 : Hid (2 * aL = M1) := by show 2 * aL = M1; omega
 have HL : Hid (aL ≤ 40) := by show aL ≤ 40; omega
 have HPl := Lib.hid hPl
 have HlM1 := Lib.hid hM1
 have HA3 : Hid (∀ ad, A3 = some ad → ad.block ≠ w3.heap.size) := fun ad h => by have h9 := hA3 ad h; simp at h9; omega
 have HG5 : Hid (w3.heap.size < w5.heap.size) := HX5.out.lt
 clear hb hct HK4 d0 d1 d2 d3 d4 d5 c0 hNl hBr5 haq hPl hM1 hA3 HX4 HBr4 Hbx
 go_wp2_with fail
 refine ktake_loop1 aL M1 who (bkX (k1 : Int) 0 0 0 false) (.slice A2 rows.length C2) nilV nilV nilV nilV nilV (mkPairs who ls) ls A3 C3 w3 w5 HL.out HM1 HlM1.out HNl HA3 (pairs_at HPl.out) HG5.out HB35 _ _ _ _ _ _ _ _ _ _ _ _ _ _ _ _ _ _ _ _ _ _ _ _ _ _ _ _ _ _ _ _ _ _ _ _ _ _ _ _ _ _ _ _ _ _ _ _ _ _ _ _ _ _ _ _ _ _ _ _ _ _ _ _ _ _ _ _ _ _ _ _ _ _ _ _ _ _ _ _ _ _ _ _ _ _ _ _ _ _ _ _ _ _ _ _ _ _ _ _ _ _ _ _ _ _ _ _ _ _ _ _ _ _ _ _ _ _ _ _ _ _ _ _ _ _ _ _ _ _ _ _ _ _ _ _ _ _ _ _ _ _ _ _ _ _ _ _ _ _ _ _ _ _ _ _ _ _ _ _ _ _ _ _ _ _ _ _ _ _ _ _ _ _ _ _ _ _ _ _ _ _ _ _ _ _ _ _ _ _ _ _ _ _ _ _ _ _ _ _ _ _ _ _ _ _ _ _ _ _ _ _ _ _ _ _ _ _ _ _ _ _ _ _ _ _ _ _ _ _ _ _ _ _ _ _ _ _ _ _ _ _ _ _ _ _ _ _ _ _ _ _ _ _ _ _ _ _ _ _ _ _ _ _ _ _ _ _ _ _ _ _ _ _ _ _ _ _ _ _ _ _ _ _ _ _ _ _ _ _ _ _ _ _ _ _ _ _ _ _ _ _ _ _ _ _ _ _ _ _ _ ?hexit HX5
 case hexit =>
 intro w6 sv v61 v62 v63 v64 v65 v66 v67 v68 v69 v70 v71 v72 v73 v74 v75 v76 v77 v78 v79 v80 v81 v82 v83 HBG HXr HO
 have HB36 := Lib.hid (HBG.out.below HB35.out (Nat.le_of_lt HG5.out))
 have HK6 := Lib.hid (HK3.out.later HB36.out)
 have HBr6 := Lib.hid (Bytes.butG HBr5.out HBG.out HX5.out (by intro v h; rcases h with h | h | h | h | h | h <;> exact ⟨_, _, _, h⟩))
 obtain ⟨A4, C4, rfl, hE4, hA4⟩ := own_split HO.out (Nat.le_trans HL.out (by decide))
 have HLi6 : Hid (Line w6 (.slice A4 aL C4) (mkPairs who ls)) := by show Elems _ _ _ _ _; rw [pairs_len HPl.out]; exact hE4
 have HA4 : Hid (∀ ad, A4 = some ad → w3.heap.size < ad.block) := fun ad h => Nat.lt_of_lt_of_le HG5.out (hA4 ad h)
 clear hE4 hA4 HO HBG HX5 HBr5 HNl HA3 HM1 HlM1 HK5
 have e1 : IntKind.i64.wrap (q + 1) = q + 1 := IntWalk.i64_in _ (by have h9 : 1 ≤ q := Hcf.out.2.2.1; omega)
 obtain ⟨d0, d1, d2, d3, d4, d5⟩ := config_cells HK6.out.2.1
 simp only at d0 d1 d2 d3 d4 d5
 go_wp2_with fail
 refine (refcounted_calls B3 r3.length D3 r3 (q + 1) 2 (by omega) (by decide) rfl hD3 _ HBr6.out).mono ?_
 rintro e w7 (⟨os, r4, A5, C5, B4, D4, hcu, rfl, hNo, hBr7, hD4, hb, hA5⟩ | ⟨hcu, rfl, hb⟩)
 rotate_left 1
 · have HK7 := Lib.hid (HK6.out.later hb)
   have HCu := Lib.hid hcu
   clear hb hcu HK6 d0 d1 d2 d3 d4 d5 e1
   obtain rfl : res = none := Hres.out.symm.trans (takeK_4 HSo.out HTb.out HCt.out HCu.out)
   have hz8 := HK7.out.2.2.2
   have hz6 := HK7.out.2.2.1
   obtain ⟨⟨p0, p1, p2, p3⟩, ⟨p4, p5, p6, p7⟩, p8, p9, p10, p11⟩ := bk_cells hz8
   obtain ⟨⟨q0, q1, q2, q3⟩, ⟨q4, q5, q6, q7⟩, q8, q9, q10, q11⟩ := bk_cells hz6
   simp only at p0 p4 p6 p7 p11 q0 q4 q6 q7 q11
   have fq := hz6.free
   have hl6 := hz6.lt
   have hl8 := hz8.lt
   have HZn := Lib.hid (bk12_whole (x := bk0) (rv := .slice none 0 0) (lv := .slice none 0 0) (ov := .slice none 0 0) (nv := .slice none 0 0) (tv := .slice none 0 0) (uv := .slice none 0 0) (iv := .slice none 0 0) hz6)
   have HTn := Lib.hid (took_none HK7.out.1)
   clear hz8 hz6
   go_wp2_with fail
   obtain ⟨⟨Z0, Z1, Z2, Z3⟩, ⟨Z4, Z5, Z6, Z7⟩, Z8, Z9, Z10, Z11⟩ := bk_cells HZn.out
   simp only [bk12] at Z0 Z1 Z2 Z3 Z4 Z5 Z6 Z7 Z8 Z9 Z10 Z11
   exact bodyPost_ret (v := .tuple #[.agg (bkCells bk0 (.slice none 0 0) (.slice none 0 0) (.slice none 0 0) (.slice none 0 0) (.slice none 0 0) (.slice none 0 0) (.slice none 0 0)), .bool false]) (by simp [results, Tryz.results8, go_sem, Z0, Z1, Z2, Z3, Z4, Z5, Z6, Z7, Z8, Z9, Z10, Z11]) rfl HTn.out
 have HK7 := Lib.hid (HK6.out.later hb)
 have HCu := Lib.hid hcu
 have HX7 := Lib.hid (HXr.out.later hb HXr.out.lt)
 have HB37 := Lib.hid (held_next HB36.out hb)
 have HBr7 := Lib.hid hBr7
 have HLi7 := Lib.hid (HLi6.out.later hb)
 obtain ⟨aO, haq, -, hPo, -, -⟩ := countedN_some hcu
 obtain ⟨M2, hM2⟩ : ∃ z, os.length = z := ⟨_, rfl⟩
 rw [hM2] at hNo ⊢
 have HNo := Lib.hid hNo
 have HM2 : Hid (2 * aO = M2) := by show 2 * aO = M2; omega
 have HLo : Hid (aO ≤ 40) := by show aO ≤ 40; omega
 have HPo := Lib.hid hPo
 have HlM2 := Lib.hid hM2
 have HA5 : Hid (∀ ad, A5 = some ad → ad.block ≠ w3.heap.size) := fun ad h => by have h9 := hA5 ad h; have h8 := HXr.out.lt; omega
 have HG7 : Hid (w3.heap.size < w7.heap.size) := HX7.out.lt
 have H38 : Hid (w.heap.size + 1 + 1 ≠ w3.heap.size) := by show w.heap.size + 1 + 1 ≠ w3.heap.size; have := HK3.out.2.2.2.lt; omega
 have H36 : Hid (w.heap.size + 1 ≠ w3.heap.size) := by show w.heap.size + 1 ≠ w3.heap.size; have := HK3.out.2.2.1.lt; omega
 have HZ8 := Lib.hid HK7.out.2.2.2
 have HZ6 := Lib.hid HK7.out.2.2.1
 clear hb hcu HK6 d0 d1 d2 d3 d4 d5 e1 hNo hBr7 haq hPo hM2 hA5 HXr HBr6 HLi6
 go_wp2_with fail
 refine ktake_loop2 aO M2 (w.heap.size + 1) (w.heap.size + 1 + 1) who (bkX (k1 : Int) 0 0 0 false) (.slice A2 rows.length C2) (.slice A4 aL C4) nilV nilV nilV nilV (mkPairs who os) os A5 C5 w3 w7 HLo.out HM2 HlM2.out HNo HA5 (pairs_at HPo.out) HZ8 HZ6 H38.out H36.out HG7.out HB37 _ _ _ _ _ _ _ _ _ _ _ _ _ _ _ _ _ _ _ _ _ _ _ _ _ _ _ _ _ _ _ _ _ _ _ _ _ _ _ _ _ _ _ _ _ _ _ _ _ _ _ _ _ _ _ _ _ _ _ _ _ _ _ _ _ _ _ _ _ _ _ _ _ _ _ _ _ _ _ _ _ _ _ _ _ _ _ _ _ _ _ _ _ _ _ _ _ _ _ _ _ _ _ _ _ _ _ _ _ _ _ _ _ _ _ _ _ _ _ _ _ _ _ _ _ _ _ _ _ _ _ _ _ _ _ _ _ _ _ _ _ _ _ _ _ _ _ _ _ _ _ _ _ _ _ _ _ _ _ _ _ _ _ _ _ _ _ _ _ _ _ _ _ _ _ _ _ _ _ _ _ _ _ _ _ _ _ _ _ _ _ _ _ _ _ _ _ _ _ _ _ _ _ _ _ _ _ _ _ _ _ _ _ _ _ _ _ _ _ _ _ _ _ _ _ _ _ _ _ _ _ _ _ _ _ _ _ _ _ _ _ _ _ _ _ _ _ _ _ _ _ _ _ _ _ _ _ _ _ _ _ _ _ _ _ _ _ _ _ _ _ _ _ _ _ _ _ _ _ _ _ _ _ _ _ _ _ _ _ _ _ _ _ _ _ _ _ _ _ _ _ _ _ _ _ _ _ _ _ ?hexit ?hret HX7
 case hret =>
  intro w8 i v16 v96 v97 v98 v99 v100 v101 v102 v103 v104 v105 v106 v107 v108 v109 v110 v111 v112 v113 v114 v115 v116 v117 v118 v119 v120 v121 v122 v123 v124 v125 HiL Hbad HBG
  have HK8 := Lib.hid (HK3.out.later (HBG.out.below HB37.out (Nat.le_of_lt HG7.out)))
  obtain rfl : res = none := Hres.out.symm.trans (takeK_code HSo.out HTb.out HCt.out HCu.out (by have h1 := HiL.out; have h2 := HPo.out; omega) Hbad.out)
  have hz6 := HK8.out.2.2.1
  have HZn := Lib.hid (bk12_whole (x := bk0) (rv := .slice none 0 0) (lv := .slice none 0 0) (ov := .slice none 0 0) (nv := .slice none 0 0) (tv := .slice none 0 0) (uv := .slice none 0 0) (iv := .slice none 0 0) hz6)
  have HTn := Lib.hid (took_none HK8.out.1)
  clear hz6
  obtain ⟨⟨Z0, Z1, Z2, Z3⟩, ⟨Z4, Z5, Z6, Z7⟩, Z8, Z9, Z10, Z11⟩ := bk_cells HZn.out
  exact bodyPost_ret (v := .tuple #[.agg (bkCells bk0 (.slice none 0 0) (.slice none 0 0) (.slice none 0 0) (.slice none 0 0) (.slice none 0 0) (.slice none 0 0) (.slice none 0 0)), .bool false]) (by simp [results, Tryz.results8, go_sem, Z0, Z1, Z2, Z3, Z4, Z5, Z6, Z7, Z8, Z9, Z10, Z11]) rfl HTn.out
 case hexit =>
 intro w8 sv v7 v96 v97 v98 v99 v100 v101 v102 v103 v104 v105 v106 v107 v108 v109 v110 v111 v112 v113 v114 v115 v116 v117 v118 v119 v120 v121 v122 v123 v124 v125 HBG HXr HO
 have HB38 := Lib.hid (HBG.out.below HB37.out (Nat.le_of_lt HG7.out))
 have HK8 := Lib.hid (HK3.out.later HB38.out)
 have HBr8 := Lib.hid (Bytes.butG HBr7.out HBG.out HX7.out (by intro v h; rcases h with h | h | h | h | h | h <;> exact ⟨_, _, _, h⟩))
 have HLi8 : Hid (Line w8 (.slice A4 aL C4) (mkPairs who ls)) := Elems.butG HLi7.out HBG.out (fun ad h => Nat.ne_of_gt (HA4.out ad h))
 obtain ⟨A6, C6, rfl, hE6, hA6⟩ := own_split HO.out (Nat.le_trans HLo.out (by decide))
 have HOu8 : Hid (Line w8 (.slice A6 aO C6) (mkPairs who os)) := by show Elems _ _ _ _ _; rw [pairs_len HPo.out]; exact hE6
 have HA6 : Hid (∀ ad, A6 = some ad → w3.heap.size < ad.block) := fun ad h => Nat.lt_of_lt_of_le HG7.out (hA6 ad h)
 clear hE6 hA6 HO HBG HX7 HBr7 HNo HA5 HM2 HlM2 HK7 HLi7 HZ8 HZ6
 obtain ⟨N, hN⟩ : ∃ N : Nat, nn = (N : Int) := ⟨nn.toNat, by have h : 1 ≤ nn := Hcf.out.1; omega⟩
 subst hN
 have h16 : N ≤ 16 := by have h : (N : Int) ≤ 16 := Hcf.out.2.1; omega
 obtain ⟨M3, HM3⟩ : ∃ z, Hid (1 + 7 * N + 2 = z) := ⟨_, rfl⟩
 have hM3 : M3 ≤ 1000 := by rw [← HM3.out]; omega
 have e1 : IntKind.i64.wrap (7 * (N : Int)) = 7 * (N : Int) := IntWalk.i64_in _ (by omega)
 have e2 : IntKind.i64.wrap (1 + 7 * (N : Int)) = 1 + 7 * (N : Int) := IntWalk.i64_in _ (by omega)
 have e3 : IntKind.i64.wrap (1 + 7 * (N : Int) + 2) = (M3 : Int) := by rw [IntWalk.i64_in _ (by omega)]; have := HM3.out; omega
 obtain ⟨d0, d1, d2, d3, d4, d5⟩ := config_cells HK8.out.2.1
 simp only at d0 d1 d2 d3 d4 d5
 go_wp2_with fail
 refine (refsome_far B4 r4.length D4 r4 M3 hM3 rfl hD4 _ HBr8.out).mono ?_
 rintro e w9 (⟨ts, r5, A7, C7, B5, D5, hst, rfl, hNt, hBr9, hD5, hb, hA7⟩ | ⟨hst, rfl, hb⟩)
 rotate_left 1
 · have HK9 := Lib.hid (HK8.out.later hb)
   have HSt : Hid (someN (1 + 7 * N + 2) r4 = none) := by show _ = _; rw [HM3.out]; exact hst
   clear hb hst HK8 d0 d1 d2 d3 d4 d5 e1 e2 e3
   obtain rfl : res = none := Hres.out.symm.trans (takeK_5 (c := ⟨(N : Int), q, r, p, kk, cc⟩) (N := N) rfl HSo.out HTb.out HCt.out HCu.out HSt.out)
   have hz8 := HK9.out.2.2.2
   have hz6 := HK9.out.2.2.1
   obtain ⟨⟨p0, p1, p2, p3⟩, ⟨p4, p5, p6, p7⟩, p8, p9, p10, p11⟩ := bk_cells hz8
   obtain ⟨⟨q0, q1, q2, q3⟩, ⟨q4, q5, q6, q7⟩, q8, q9, q10, q11⟩ := bk_cells hz6
   simp only at p0 p4 p6 p7 p11 q0 q4 q6 q7 q11
   have fq := hz6.free
   have hl6 := hz6.lt
   have hl8 := hz8.lt
   have HZn := Lib.hid (bk12_whole (x := bk0) (rv := .slice none 0 0) (lv := .slice none 0 0) (ov := .slice none 0 0) (nv := .slice none 0 0) (tv := .slice none 0 0) (uv := .slice none 0 0) (iv := .slice none 0 0) hz6)
   have HTn := Lib.hid (took_none HK9.out.1)
   clear hz8 hz6
   go_wp2_with fail
   obtain ⟨⟨Z0, Z1, Z2, Z3⟩, ⟨Z4, Z5, Z6, Z7⟩, Z8, Z9, Z10, Z11⟩ := bk_cells HZn.out
   simp only [bk12] at Z0 Z1 Z2 Z3 Z4 Z5 Z6 Z7 Z8 Z9 Z10 Z11
   exact bodyPost_ret (v := .tuple #[.agg (bkCells bk0 (.slice none 0 0) (.slice none 0 0) (.slice none 0 0) (.slice none 0 0) (.slice none 0 0) (.slice none 0 0) (.slice none 0 0)), .bool false]) (by simp [results, Tryz.results8, go_sem, Z0, Z1, Z2, Z3, Z4, Z5, Z6, Z7, Z8, Z9, Z10, Z11]) rfl HTn.out
 have HK9 := Lib.hid (HK8.out.later hb)
 have HSt : Hid (someN (1 + 7 * N + 2) r4 = some (ts, r5)) := by show _ = _; rw [HM3.out]; exact hst
 have HX9 := Lib.hid (HXr.out.later hb HXr.out.lt)
 have HB39 := Lib.hid (held_next HB38.out hb)
 have HBr9 := Lib.hid hBr9
 have HLi9 := Lib.hid (HLi8.out.later hb)
 have HOu9 := Lib.hid (HOu8.out.later hb)
 have hlt : ts.length = M3 := by rw [← HM3.out]; exact (someN_some HSt.out).1
 rw [hlt] at hNt ⊢
 have HNt := Lib.hid hNt
 have HlM3 := Lib.hid hlt
 have HA7 : Hid (∀ ad, A7 = some ad → ad.block ≠ w3.heap.size) := fun ad h => by have h9 := hA7 ad h; have h8 := HXr.out.lt; omega
 have HG9 : Hid (w3.heap.size < w9.heap.size) := HX9.out.lt
 clear hb hst HK8 d0 d1 d2 d3 d4 d5 e1 e2 e3 hBr9 hlt hA7 HXr HBr8 HLi8 HOu8
 obtain ⟨b7, o7, rfl, -, -⟩ := HNt.out.at (i := 0) (by rw [List.length_map, HlM3.out, ← HM3.out]; omega)
 clear hNt
 obtain ⟨ak, Hak⟩ : ∃ z : Int, Hid (((ts[0]?.getD 0 : Nat) : Int) = z) := ⟨_, Lib.hid rfl⟩
 have t0 : w9.cell? ⟨b7, o7, none⟩ = some (.int .i64 ak) := by
  have h9 := list_cell HNt.out (i := 0) (by rw [HlM3.out, ← HM3.out]; omega)
  rw [Hak.out] at h9
  exact h9
 have hM30 : (0 : Int) < (M3 : Int) := by rw [← HM3.out]; omega
 obtain ⟨⟨_, _, _, _⟩, ⟨x4, _, _, _⟩, _⟩ := bk_cells HX9.out
 have y4 := HX9.out.free 4
 have hlx9 := HX9.out.lt
 have HX10 := Lib.hid (bk_set4 (z := ak) HX9.out)
 have HBG10 := Lib.hid ((ButG.refl w3.heap.size w9).set 4 (.int .i64 ak))
 obtain ⟨d0, d1, d2, d3, d4, d5⟩ := config_cells HK9.out.2.1
 simp only at d0 d1 d2 d3 d4 d5
 go_wp2_with fail
 obtain ⟨w10, hw10⟩ : ∃ z, z = w9.setCell ⟨w3.heap.size, 4, none⟩ (.int .i64 ak) := ⟨_, rfl⟩
 rw [← hw10] at HX10 HBG10 ⊢
 clear hw10 x4 y4 d0 d1 d2 d3 d4 d5 t0 hM30
 have HB310 := Lib.hid (HBG10.out.below HB39.out (Nat.le_of_lt HG9.out))
 have HK10 := Lib.hid (HK3.out.later HB310.out)
 have HBr10 := Lib.hid (Bytes.butG HBr9.out HBG10.out HX9.out (by intro v h; rcases h with h | h | h | h | h | h <;> exact ⟨_, _, _, h⟩))
 have HLi10 : Hid (Line w10 (.slice A4 aL C4) (mkPairs who ls)) := Elems.butG HLi9.out HBG10.out (fun ad h => Nat.ne_of_gt (HA4.out ad h))
 have HOu10 : Hid (Line w10 (.slice A6 aO C6) (mkPairs who os)) := Elems.butG HOu9.out HBG10.out (fun ad h => Nat.ne_of_gt (HA6.out ad h))
 have HN10 : Hid (Nums w10 (.slice (some ⟨b7, o7, none⟩) M3 C7) (ts.map fun v : Nat => (v : Int))) := Elems.butG HNt.out HBG10.out HA7.out
 have H30 : Hid (w.heap.size ≠ w3.heap.size) := by show w.heap.size ≠ w3.heap.size; have := HK3.out.2.1.lt; omega
 have HC10 := Lib.hid HK10.out.2.1
 have HG10 : Hid (w3.heap.size < w10.heap.size) := HX10.out.lt
 clear HX9 HBG10 HBr9 HLi9 HOu9 HNt HK9
 refine ktake_loop3 N M3 w.heap.size (bkX (k1 : Int) ak 0 0 false) (.slice A2 rows.length C2) (.slice A4 aL C4) (.slice A6 aO C6) nilV nilV nilV q r p kk cc (mkNotes ts N) ts (some ⟨b7, o7, none⟩) C7 w3 w10 h16 HM3 HlM3.out HN10 HA7 (Lib.hid (mknotes_at ts)) HC10 H30.out HG10.out HB310 _ _ _ _ _ _ _ _ _ _ _ _ _ _ _ _ _ _ _ _ _ _ _ _ _ _ _ _ _ _ _ _ _ _ _ _ _ _ _ _ _ _ _ _ _ _ _ _ _ _ _ _ _ _ _ _ _ _ _ _ _ _ _ _ _ _ _ _ _ _ _ _ _ _ _ _ _ _ _ _ _ _ _ _ _ _ _ _ _ _ _ _ _ _ _ _ _ _ _ _ _ _ _ _ _ _ _ _ _ _ _ _ _ _ _ _ _ _ _ _ _ _ _ _ _ _ _ _ _ _ _ _ _ _ _ _ _ _ _ _ _ _ _ _ _ _ _ _ _ _ _ _ _ _ _ _ _ _ _ _ _ _ _ _ _ _ _ _ _ _ _ _ _ _ _ _ _ _ _ _ _ _ _ _ _ _ _ _ _ _ _ _ _ _ _ _ _ _ _ _ _ _ _ _ _ _ _ _ _ _ _ _ _ _ _ _ _ _ _ _ _ _ _ _ _ _ _ _ _ _ _ _ _ _ _ _ _ _ _ _ _ _ _ _ _ _ _ _ _ _ _ _ _ _ _ _ _ _ _ _ _ _ _ _ _ _ _ _ _ _ _ _ _ _ _ _ _ _ _ _ _ _ _ _ _ _ _ _ _ _ _ _ _ _ _ _ _ _ _ _ _ _ _ _ _ _ _ _ _ _ _ ?hexit HX10
 case hexit =>
 intro w11 sv v18 v144 v145 v146 v147 v148 v149 v150 v151 v152 v153 v154 v155 v156 v157 v158 v159 v160 v161 v162 v163 v164 v165 v166 v167 v168 v169 v170 v171 v172 v173 v174 v175 v176 v177 v178 v179 v180 v181 v182 v183 v184 v185 v186 v187 HBG HXr HO
 have HB311 := Lib.hid (HBG.out.below HB310.out (Nat.le_of_lt HG10.out))
 have HK11 := Lib.hid (HK3.out.later HB311.out)
 have HBr11 := Lib.hid (Bytes.butG HBr10.out HBG.out HX10.out (by intro v h; rcases h with h | h | h | h | h | h <;> exact ⟨_, _, _, h⟩))
 have HLi11 : Hid (Line w11 (.slice A4 aL C4) (mkPairs who ls)) := Elems.butG HLi10.out HBG.out (fun ad h => Nat.ne_of_gt (HA4.out ad h))
 have HOu11 : Hid (Line w11 (.slice A6 aO C6) (mkPairs who os)) := Elems.butG HOu10.out HBG.out (fun ad h => Nat.ne_of_gt (HA6.out ad h))
 have HN11 : Hid (Nums w11 (.slice (some ⟨b7, o7, none⟩) M3 C7) (ts.map fun v : Nat => (v : Int))) := Elems.butG HN10.out HBG.out HA7.out
 obtain ⟨A8, C8, rfl, hE8, hA8⟩ := own_split HO.out (Nat.le_trans h16 (by decide))
 have HNo11 : Hid (Notes w11 (.slice A8 N C8) (mkNotes ts N)) := by show Elems _ _ _ _ _; rw [mknotes_len]; exact hE8
 have HA8 : Hid (∀ ad, A8 = some ad → w3.heap.size < ad.block) := fun ad h => Nat.lt_of_lt_of_le HG10.out (hA8 ad h)
 clear hE8 hA8 HO HBG HX10 HBr10 HLi10 HOu10 HN10 HC10 HK10
 obtain ⟨J1, HJ1⟩ : ∃ z, Hid (1 + 7 * N = z) := ⟨_, rfl⟩
 obtain ⟨J2, HJ2⟩ : ∃ z, Hid (2 + 7 * N = z) := ⟨_, rfl⟩
 have e1 : IntKind.i64.wrap (7 * (N : Int)) = 7 * (N : Int) := IntWalk.i64_in _ (by omega)
 have e2 : IntKind.i64.wrap (1 + 7 * (N : Int)) = (J1 : Int) := by rw [IntWalk.i64_in _ (by omega)]; have := HJ1.out; omega
 have e3 : IntKind.i64.wrap (2 + 7 * (N : Int)) = (J2 : Int) := by rw [IntWalk.i64_in _ (by omega)]; have := HJ2.out; omega
 obtain ⟨y1, Hy1⟩ : ∃ z : Int, Hid (((ts[1 + 7 * N]?.getD 0 : Nat) : Int) = z) := ⟨_, Lib.hid rfl⟩
 obtain ⟨y2, Hy2⟩ : ∃ z : Int, Hid (((ts[2 + 7 * N]?.getD 0 : Nat) : Int) = z) := ⟨_, Lib.hid rfl⟩
 have u1 : w11.cell? ⟨b7, o7 + J1, none⟩ = some (.int .i64 y1) := by
  have h9 := list_cell HN11.out (i := J1) (by rw [HlM3.out, ← HM3.out, ← HJ1.out]; omega)
  rw [show J1 = 1 + 7 * N from HJ1.out.symm, Hy1.out, show 1 + 7 * N = J1 from HJ1.out] at h9
  exact h9
 have u2 : w11.cell? ⟨b7, o7 + J2, none⟩ = some (.int .i64 y2) := by
  have h9 := list_cell HN11.out (i := J2) (by rw [HlM3.out, ← HM3.out, ← HJ2.out]; omega)
  rw [show J2 = 2 + 7 * N from HJ2.out.symm, Hy2.out, show 2 + 7 * N = J2 from HJ2.out] at h9
  exact h9
 have j1 : (0 : Int) ≤ (J1 : Int) := Int.natCast_nonneg J1
 have j2 : (J1 : Int) < (M3 : Int) := Int.ofNat_lt.2 (by rw [← HM3.out, ← HJ1.out]; omega)
 have j3 : (0 : Int) ≤ (J2 : Int) := Int.natCast_nonneg J2
 have j4 : (J2 : Int) < (M3 : Int) := Int.ofNat_lt.2 (by rw [← HM3.out, ← HJ2.out]; omega)
 obtain ⟨d0, d1, d2, d3, d4, d5⟩ := config_cells HK11.out.2.1
 simp only at d0 d1 d2 d3 d4 d5
 obtain ⟨⟨_, _, _, _⟩, ⟨_, _, x6, x7⟩, _⟩ := bk_cells HXr.out
 simp only at x6 x7
 have y6 := HXr.out.free 6
 have y7 := HXr.out.free 7
 have hlx := HXr.out.lt
 go_wp2_with fail
 go_region
 have HX12 := Lib.hid (Whole.drew (bk_set67 (y := y1) (z := y2) HXr.out))
 have HBG12 := Lib.hid ((((ButG.refl w3.heap.size w11).set 6 (.int .i64 y1)).set 7 (.int .i64 y2)).next (Below.refl _ _).drew)
 obtain ⟨w12, hw12⟩ : ∃ z, z = ((w11.setCell ⟨w3.heap.size, 6, none⟩ (.int .i64 y1)).setCell ⟨w3.heap.size, 7, none⟩ (.int .i64 y2)).drew := ⟨_, rfl⟩
 rw [← hw12] at HX12 HBG12 ⊢
 clear hw12 x6 x7 y6 y7 d0 d1 d2 d3 d4 d5 u1 u2 j1 j2 j3 j4 e1 e2 e3 hlx
 have HG11 : Hid (w3.heap.size < w11.heap.size) := HXr.out.lt
 have HB312 := Lib.hid (HBG12.out.below HB311.out (Nat.le_of_lt HG11.out))
 have HK12 := Lib.hid (HK3.out.later HB312.out)
 have HBr12 := Lib.hid (Bytes.butG HBr11.out HBG12.out HXr.out (by intro v h; rcases h with h | h | h | h | h | h <;> exact ⟨_, _, _, h⟩))
 have HLi12 : Hid (Line w12 (.slice A4 aL C4) (mkPairs who ls)) := Elems.butG HLi11.out HBG12.out (fun ad h => Nat.ne_of_gt (HA4.out ad h))
 have HOu12 : Hid (Line w12 (.slice A6 aO C6) (mkPairs who os)) := Elems.butG HOu11.out HBG12.out (fun ad h => Nat.ne_of_gt (HA6.out ad h))
 have HNo12 : Hid (Notes w12 (.slice A8 N C8) (mkNotes ts N)) := Elems.butG HNo11.out HBG12.out (fun ad h => Nat.ne_of_gt (HA8.out ad h))
 clear HXr HBG12 HBr11 HLi11 HOu11 HNo11 HK11 HN11
 obtain ⟨⟨_, _, _, _⟩, ⟨_, _, x6, x7⟩, _⟩ := bk_cells HX12.out
 simp only at x6 x7
 have hmk : ∀ au, mkK who N k1 rows ls os ts au = ⟨(k1 : Int), rows, mkPairs who ls, mkPairs who os, ak, mkNotes ts N, au⟩ := fun au => by unfold mkK; rw [Hak.out]
 have Hmk := Lib.hid hmk; clear hmk
 have Hw6 : Hid (w.heap.size + 1 < w3.heap.size) := HK3.out.2.2.1.lt
 by_cases hy : y1 = 0 ∧ y2 = 0
 · obtain ⟨hy1, hy2⟩ := hy
   subst hy1 hy2
   have T1 : Hid (ts[1 + 7 * N]?.getD 0 = 0) := by have := Hy1.out; show _ = 0; omega
   have T2 : Hid (ts[2 + 7 * N]?.getD 0 = 0) := by have := Hy2.out; show _ = 0; omega
   by_cases hm : 0 < r5.length
   · have g1 : (0 : Int) < (r5.length : Int) := by omega
     obtain rfl : res = none := Hres.out.symm.trans (takeK_none_more (c := ⟨(N : Int), q, r, p, kk, cc⟩) (N := N) rfl HSo.out HTb.out HCt.out HCu.out HSt.out T1.out T2.out hm)
     have hz8 := HK12.out.2.2.2
     have hz6 := HK12.out.2.2.1
     obtain ⟨⟨p0, p1, p2, p3⟩, ⟨p4, p5, p6, p7⟩, p8, p9, p10, p11⟩ := bk_cells hz8
     obtain ⟨⟨q0, q1, q2, q3⟩, ⟨q4, q5, q6, q7⟩, q8, q9, q10, q11⟩ := bk_cells hz6
     simp only at p0 p4 p6 p7 p11 q0 q4 q6 q7 q11
     have fq := hz6.free
     have hl6 := hz6.lt
     have hl8 := hz8.lt
     have HZn := Lib.hid (bk12_whole (x := bk0) (rv := .slice none 0 0) (lv := .slice none 0 0) (ov := .slice none 0 0) (nv := .slice none 0 0) (tv := .slice none 0 0) (uv := .slice none 0 0) (iv := .slice none 0 0) hz6)
     have HTn := Lib.hid (took_none HK12.out.1)
     clear hz8 hz6
     go_wp2_with fail
     obtain ⟨⟨Z0, Z1, Z2, Z3⟩, ⟨Z4, Z5, Z6, Z7⟩, Z8, Z9, Z10, Z11⟩ := bk_cells HZn.out
     simp only [bk12] at Z0 Z1 Z2 Z3 Z4 Z5 Z6 Z7 Z8 Z9 Z10 Z11
     exact bodyPost_ret (v := .tuple #[.agg (bkCells bk0 (.slice none 0 0) (.slice none 0 0) (.slice none 0 0) (.slice none 0 0) (.slice none 0 0) (.slice none 0 0) (.slice none 0 0)), .bool false]) (by simp [results, Tryz.results8, go_sem, Z0, Z1, Z2, Z3, Z4, Z5, Z6, Z7, Z8, Z9, Z10, Z11]) rfl HTn.out
   have g1 : ¬ (0 : Int) < (r5.length : Int) := by omega
   have hend := takeK_none_end (who := who) (c := ⟨(N : Int), q, r, p, kk, cc⟩) (N := N) rfl HSo.out HTb.out HCt.out HCu.out HSt.out T1.out T2.out hm
   rw [Hmk.out] at hend
   have HEnd := Lib.hid (Hres.out.symm.trans hend); clear hend
   have hin : BkIn w12 ⟨A2, rows.length, C2, A4, aL, C4, A6, aO, C6, A8, N, C8, ⟨none, 0, 0, none, 0, 0, none, 0, 0⟩⟩ ⟨(k1 : Int), rows, mkPairs who ls, mkPairs who os, ak, mkNotes ts N, au0⟩ := ⟨⟨rfl, (HBf3.out.later HB312.out).1⟩, ⟨(pairs_len HPl.out).symm, HLi12.out⟩, ⟨(pairs_len HPo.out).symm, HOu12.out⟩, ⟨(mknotes_len ts N).symm, HNo12.out⟩, (bk_none _).2.2.2.2⟩
   have HIn := Lib.hid hin; clear hin
   obtain ⟨bb, Hbb⟩ : ∃ z, Hid (bookB ⟨(N : Int), q, r, p, kk, cc⟩ who ⟨(k1 : Int), rows, mkPairs who ls, mkPairs who os, ak, mkNotes ts N, au0⟩ = z) := ⟨_, rfl⟩
   have hcall := refkmay_calls ⟨(N : Int), q, r, p, kk, cc⟩ who ⟨(k1 : Int), rows, mkPairs who ls, mkPairs who os, ak, mkNotes ts N, au0⟩ ⟨A2, rows.length, C2, A4, aL, C4, A6, aO, C6, A8, N, C8, ⟨none, 0, 0, none, 0, 0, none, 0, 0⟩⟩ w12 HIn.out
   rw [Hbb.out] at hcall
   simp only [bkAt, bkAtC, bkCells] at hcall
   have Hcall := Lib.hid hcall; clear hcall
   rw [Hbb.out] at HEnd
   obtain ⟨d0, d1, d2, d3, d4, d5⟩ := config_cells HK12.out.2.1
   simp only at d0 d1 d2 d3 d4 d5
   obtain ⟨⟨m0, m1, m2, m3⟩, ⟨m4, m5, m6, m7⟩, m8, m9, m10, m11⟩ := bk_cells HX12.out
   simp only at m0 m4 m6 m7 m11
   go_wp2_with fail
   refine Hcall.out.mono ?_
   rintro e w20 ⟨rfl, hb⟩
   have HK20 := Lib.hid (HK12.out.later hb)
   have HX20 := Lib.hid (HX12.out.later hb HX12.out.lt)
   have HI20 := Lib.hid (HIn.out.later hb)
   have HF20 := Lib.hid ((HBf3.out.later HB312.out).later hb)
   clear hb d0 d1 d2 d3 d4 d5 m0 m1 m2 m3 m4 m5 m6 m7 m8 m9 m10 m11 Hcall HIn
   cases bb with
   | false =>
     obtain rfl : res = none := HEnd.out.trans (if_neg (by simp))
     have hz8 := HK20.out.2.2.2
     have hz6 := HK20.out.2.2.1
     obtain ⟨⟨p0, p1, p2, p3⟩, ⟨p4, p5, p6, p7⟩, p8, p9, p10, p11⟩ := bk_cells hz8
     obtain ⟨⟨q0, q1, q2, q3⟩, ⟨q4, q5, q6, q7⟩, q8, q9, q10, q11⟩ := bk_cells hz6
     simp only at p0 p4 p6 p7 p11 q0 q4 q6 q7 q11
     have fq := hz6.free
     have hl6 := hz6.lt
     have hl8 := hz8.lt
     have HZn := Lib.hid (bk12_whole (x := bk0) (rv := .slice none 0 0) (lv := .slice none 0 0) (ov := .slice none 0 0) (nv := .slice none 0 0) (tv := .slice none 0 0) (uv := .slice none 0 0) (iv := .slice none 0 0) hz6)
     have HTn := Lib.hid (took_none HK20.out.1)
     clear hz8 hz6
     go_wp2_with fail
     obtain ⟨⟨Z0, Z1, Z2, Z3⟩, ⟨Z4, Z5, Z6, Z7⟩, Z8, Z9, Z10, Z11⟩ := bk_cells HZn.out
     simp only [bk12] at Z0 Z1 Z2 Z3 Z4 Z5 Z6 Z7 Z8 Z9 Z10 Z11
     exact bodyPost_ret (v := .tuple #[.agg (bkCells bk0 (.slice none 0 0) (.slice none 0 0) (.slice none 0 0) (.slice none 0 0) (.slice none 0 0) (.slice none 0 0) (.slice none 0 0)), .bool false]) (by simp [results, Tryz.results8, go_sem, Z0, Z1, Z2, Z3, Z4, Z5, Z6, Z7, Z8, Z9, Z10, Z11]) rfl HTn.out
   | true =>
     obtain rfl : res = some ⟨(k1 : Int), rows, mkPairs who ls, mkPairs who os, ak, mkNotes ts N, au0⟩ := HEnd.out.trans (if_pos rfl)
     have hz6 := HK20.out.2.2.1
     obtain ⟨⟨p0, p1, p2, p3⟩, ⟨p4, p5, p6, p7⟩, p8, p9, p10, p11⟩ := bk_cells HX20.out
     obtain ⟨⟨q0, q1, q2, q3⟩, ⟨q4, q5, q6, q7⟩, q8, q9, q10, q11⟩ := bk_cells hz6
     simp only at p0 p4 p6 p7 p11 q0 q4 q6 q7 q11
     have fq := hz6.free
     have hl6 := hz6.lt
     have hl8 := HX20.out.lt
     have HZn := Lib.hid (bk12_whole (x := ⟨(k1 : Int), rows, mkPairs who ls, mkPairs who os, ak, mkNotes ts N, au0⟩) (rv := (.slice A2 rows.length C2)) (lv := .slice A4 aL C4) (ov := .slice A6 aO C6) (nv := .slice A8 N C8) (tv := nilV) (uv := nilV) (iv := nilV) hz6)
     have HTn := Lib.hid (took_some (x := ⟨(k1 : Int), rows, mkPairs who ls, mkPairs who os, ak, mkNotes ts N, au0⟩) (p := ⟨A2, rows.length, C2, A4, aL, C4, A6, aO, C6, A8, N, C8, ⟨none, 0, 0, none, 0, 0, none, 0, 0⟩⟩) HK20.out.1 HI20.out HF20.out Hw23.out ⟨(fun ad h => Nat.ne_of_gt (Nat.lt_trans Hw6.out (HA4.out ad h))), (fun ad h => Nat.ne_of_gt (Nat.lt_trans Hw6.out (HA6.out ad h))), (fun ad h => Nat.ne_of_gt (Nat.lt_trans Hw6.out (HA8.out ad h))), (fun _ h => by cases h), (fun _ h => by cases h), (fun _ h => by cases h)⟩ (.slice A2 rows.length C2) (.slice A4 aL C4) (.slice A6 aO C6) (.slice A8 N C8) nilV nilV nilV)
     clear hz6
     go_wp2_with fail
     obtain ⟨⟨Z0, Z1, Z2, Z3⟩, ⟨Z4, Z5, Z6, Z7⟩, Z8, Z9, Z10, Z11⟩ := bk_cells HZn.out
     simp only [bk12] at Z0 Z1 Z2 Z3 Z4 Z5 Z6 Z7 Z8 Z9 Z10 Z11
     exact bodyPost_ret (v := .tuple #[bkAt ⟨(k1 : Int), rows, mkPairs who ls, mkPairs who os, ak, mkNotes ts N, au0⟩ ⟨A2, rows.length, C2, A4, aL, C4, A6, aO, C6, A8, N, C8, ⟨none, 0, 0, none, 0, 0, none, 0, 0⟩⟩, .bool true]) (by simp [results, Tryz.results8, go_sem, Z0, Z1, Z2, Z3, Z4, Z5, Z6, Z7, Z8, Z9, Z10, Z11]) rfl HTn.out
 have hne : Hid (¬ (ts[1 + 7 * N]?.getD 0 = 0 ∧ ts[2 + 7 * N]?.getD 0 = 0)) := fun h => hy ⟨by rw [← Hy1.out, h.1]; rfl, by rw [← Hy2.out, h.2]; rfl⟩
 obtain ⟨M4, HM4⟩ : ∃ z, Hid (3 * N + 1 = z) := ⟨_, rfl⟩
 have hM4 : M4 ≤ 1000 := by rw [← HM4.out]; omega
 have e1 : IntKind.i64.wrap (3 * (N : Int)) = 3 * (N : Int) := IntWalk.i64_in _ (by omega)
 have e2 : IntKind.i64.wrap (3 * (N : Int) + 1) = (M4 : Int) := by rw [IntWalk.i64_in _ (by omega)]; have := HM4.out; omega
 have Hdone : Hid (∀ K0 : Prop, (y1 ≠ 0 → K0) → (y1 = 0 → y2 ≠ 0 → K0) → K0) := fun K0 h1 h2 => by
  by_cases h : y1 = 0
  · exact h2 h (fun h9 => hy ⟨h, h9⟩)
  · exact h1 h
 clear hy
 obtain ⟨d0, d1, d2, d3, d4, d5⟩ := config_cells HK12.out.2.1
 simp only at d0 d1 d2 d3 d4 d5
 have Hmeet : Hid ((y1 != 0) = true ∨ ((y1 != 0) = false ∧ (y2 != 0) = true)) := by
  show _ ∨ _
  refine Hdone.out _ (fun h => Or.inl (bne_iff_ne.2 h)) (fun h1 h2 => Or.inr ⟨by rw [h1]; rfl, bne_iff_ne.2 h2⟩)
 clear Hdone
 go_upto_region 35 with fail
 go_cut [216] from 205 to 216 (fun s216 wx => s216 = .bool true ∧ wx = w12)
 case first =>
  rcases Hmeet.out with h1 | ⟨h1, h2⟩
  · have hb1 := h1
    clear Hmeet
    go_wp2_with fail
    go_meet
    exact ⟨by first | rfl | (simp; done) | simp [hb1], rfl⟩
  · have hb1 := h1
    have hb2 := h2
    clear Hmeet
    go_wp2_with fail
    go_meet
    exact ⟨by first | rfl | (simp; done) | simp [hb1, hb2], rfl⟩
 case rest =>
 obtain ⟨rfl, rfl⟩ := hcut
 clear Hmeet
 go_wp2_with fail
 refine (refsome_far B5 r5.length D5 r5 M4 hM4 rfl hD5 _ HBr12.out).mono ?_
 rintro e w13 (⟨us, r6, A9, C9, B6, D6, hsu, rfl, hNu, hBr13, hD6, hb, hA9⟩ | ⟨hsu, rfl, hb⟩)
 rotate_left 1
 · have HK13 := Lib.hid (HK12.out.later hb)
   have HSu : Hid (someN (3 * N + 1) r5 = none) := by show _ = _; rw [HM4.out]; exact hsu
   clear hb hsu HK12 d0 d1 d2 d3 d4 d5 e1 e2 x6 x7
   obtain rfl : res = none := Hres.out.symm.trans (takeK_6 (c := ⟨(N : Int), q, r, p, kk, cc⟩) (N := N) rfl HSo.out HTb.out HCt.out HCu.out HSt.out hne.out HSu.out)
   have hz8 := HK13.out.2.2.2
   have hz6 := HK13.out.2.2.1
   obtain ⟨⟨p0, p1, p2, p3⟩, ⟨p4, p5, p6, p7⟩, p8, p9, p10, p11⟩ := bk_cells hz8
   obtain ⟨⟨q0, q1, q2, q3⟩, ⟨q4, q5, q6, q7⟩, q8, q9, q10, q11⟩ := bk_cells hz6
   simp only at p0 p4 p6 p7 p11 q0 q4 q6 q7 q11
   have fq := hz6.free
   have hl6 := hz6.lt
   have hl8 := hz8.lt
   have HZn := Lib.hid (bk12_whole (x := bk0) (rv := .slice none 0 0) (lv := .slice none 0 0) (ov := .slice none 0 0) (nv := .slice none 0 0) (tv := .slice none 0 0) (uv := .slice none 0 0) (iv := .slice none 0 0) hz6)
   have HTn := Lib.hid (took_none HK13.out.1)
   clear hz8 hz6
   go_wp2_with fail
   obtain ⟨⟨Z0, Z1, Z2, Z3⟩, ⟨Z4, Z5, Z6, Z7⟩, Z8, Z9, Z10, Z11⟩ := bk_cells HZn.out
   simp only [bk12] at Z0 Z1 Z2 Z3 Z4 Z5 Z6 Z7 Z8 Z9 Z10 Z11
   exact bodyPost_ret (v := .tuple #[.agg (bkCells bk0 (.slice none 0 0) (.slice none 0 0) (.slice none 0 0) (.slice none 0 0) (.slice none 0 0) (.slice none 0 0) (.slice none 0 0)), .bool false]) (by simp [results, Tryz.results8, go_sem, Z0, Z1, Z2, Z3, Z4, Z5, Z6, Z7, Z8, Z9, Z10, Z11]) rfl HTn.out
 have HK13 := Lib.hid (HK12.out.later hb)
 have HSu : Hid (someN (3 * N + 1) r5 = some (us, r6)) := by show _ = _; rw [HM4.out]; exact hsu
 have HX13 := Lib.hid (HX12.out.later hb HX12.out.lt)
 have HB313 := Lib.hid (held_next HB312.out hb)
 have HBr13 := Lib.hid hBr13
 have HLi13 := Lib.hid (HLi12.out.later hb)
 have HOu13 := Lib.hid (HOu12.out.later hb)
 have HNo13 := Lib.hid (HNo12.out.later hb)
 have hlu : us.length = M4 := by rw [← HM4.out]; exact (someN_some HSu.out).1
 rw [hlu] at hNu ⊢
 have HNu := Lib.hid hNu
 have HlM4 := Lib.hid hlu
 have HA9 : Hid (∀ ad, A9 = some ad → ad.block ≠ w3.heap.size) := fun ad h => by have h9 := hA9 ad h; have h8 := HX12.out.lt; omega
 have HG13 : Hid (w3.heap.size < w13.heap.size) := HX13.out.lt
 clear hb hsu HK12 d0 d1 d2 d3 d4 d5 e1 e2 x6 x7 hBr13 hlu hA9 HX12 HBr12 HLi12 HOu12 HNo12
 obtain ⟨P, HP⟩ : ∃ z, Hid (3 * N = z) := ⟨_, rfl⟩
 have hPM : P < M4 := by have h1 := HP.out; have h2 := HM4.out; omega
 obtain ⟨b9, o9, rfl, -, -⟩ := HNu.out.at (i := P) (by rw [List.length_map, HlM4.out]; exact hPM)
 clear hNu
 obtain ⟨y3, Hy3⟩ : ∃ z : Int, Hid (((us[P]?.getD 0 : Nat) : Int) = z) := ⟨_, Lib.hid rfl⟩
 have U1 : Hid (w13.cell? ⟨b9, o9 + P, none⟩ = some (.int .i64 y3)) := by
  have h9 := list_cell HNu.out (i := P) (by rw [HlM4.out]; exact hPM)
  rw [Hy3.out] at h9
  exact h9
 have e1 : IntKind.i64.wrap (3 * (N : Int)) = (P : Int) := by rw [IntWalk.i64_in _ (by omega)]; have := HP.out; omega
 have j1 : (0 : Int) ≤ (P : Int) := Int.natCast_nonneg P
 have j2 : (P : Int) < (M4 : Int) := Int.ofNat_lt.2 hPM
 have u1 := U1.out
 obtain ⟨fb, Hfb⟩ : ∃ z, Hid (decide (y3 = 0 ∨ y3 = 1) = z) := ⟨_, rfl⟩
 clear hPM
 obtain ⟨d0, d1, d2, d3, d4, d5⟩ := config_cells HK13.out.2.1
 simp only at d0 d1 d2 d3 d4 d5
 go_wp2_with fail
 refine (refkflag_calls y3 _).mono ?_
 rw [Hfb.out]
 rintro e w14 ⟨rfl, rfl⟩
 clear d0 d1 d2 d3 d4 d5 u1
 cases fb with
 | false =>
   have Hbad : Hid (¬ (us[3 * N]?.getD 0 = 0 ∨ us[3 * N]?.getD 0 = 1)) := by
    show ¬ _
    have h9 := of_decide_eq_false Hfb.out
    rw [← Hy3.out] at h9
    rw [show 3 * N = P from HP.out]
    exact fun h => h9 (h.elim (fun e => Or.inl (by rw [e]; rfl)) (fun e => Or.inr (by rw [e]; rfl)))
   obtain rfl : res = none := Hres.out.symm.trans (takeK_flag (c := ⟨(N : Int), q, r, p, kk, cc⟩) (N := N) rfl HSo.out HTb.out HCt.out HCu.out HSt.out hne.out HSu.out (Nat.le_refl N) Hbad.out)
   have hz8 := HK13.out.2.2.2
   have hz6 := HK13.out.2.2.1
   obtain ⟨⟨p0, p1, p2, p3⟩, ⟨p4, p5, p6, p7⟩, p8, p9, p10, p11⟩ := bk_cells hz8
   obtain ⟨⟨q0, q1, q2, q3⟩, ⟨q4, q5, q6, q7⟩, q8, q9, q10, q11⟩ := bk_cells hz6
   simp only at p0 p4 p6 p7 p11 q0 q4 q6 q7 q11
   have fq := hz6.free
   have hl6 := hz6.lt
   have hl8 := hz8.lt
   have HZn := Lib.hid (bk12_whole (x := bk0) (rv := .slice none 0 0) (lv := .slice none 0 0) (ov := .slice none 0 0) (nv := .slice none 0 0) (tv := .slice none 0 0) (uv := .slice none 0 0) (iv := .slice none 0 0) hz6)
   have HTn := Lib.hid (took_none HK13.out.1)
   clear hz8 hz6
   go_wp2_with fail
   obtain ⟨⟨Z0, Z1, Z2, Z3⟩, ⟨Z4, Z5, Z6, Z7⟩, Z8, Z9, Z10, Z11⟩ := bk_cells HZn.out
   simp only [bk12] at Z0 Z1 Z2 Z3 Z4 Z5 Z6 Z7 Z8 Z9 Z10 Z11
   exact bodyPost_ret (v := .tuple #[.agg (bkCells bk0 (.slice none 0 0) (.slice none 0 0) (.slice none 0 0) (.slice none 0 0) (.slice none 0 0) (.slice none 0 0) (.slice none 0 0)), .bool false]) (by simp [results, Tryz.results8, go_sem, Z0, Z1, Z2, Z3, Z4, Z5, Z6, Z7, Z8, Z9, Z10, Z11]) rfl HTn.out
 | true =>
 have Hflag : Hid (us[3 * N]?.getD 0 = 0 ∨ us[3 * N]?.getD 0 = 1) := by
  show _ ∨ _
  have h9 := of_decide_eq_true Hfb.out
  rw [← Hy3.out] at h9
  rw [show 3 * N = P from HP.out]
  exact h9.elim (fun e => Or.inl (Int.ofNat.inj e)) (fun e => Or.inr (Int.ofNat.inj e))
 have HZ8 := Lib.hid HK13.out.2.2.2
 have HZ6 := Lib.hid HK13.out.2.2.1
 have HC13 := Lib.hid HK13.out.2.1
 go_wp2_with fail
 refine ktake_loop4 N M4 w.heap.size (w.heap.size + 1) (w.heap.size + 1 + 1) (bkX (k1 : Int) ak y1 y2 false) (.slice A2 rows.length C2) (.slice A4 aL C4) (.slice A6 aO C6) (.slice A8 N C8) q r p kk cc us (some ⟨b9, o9, none⟩) C9 w3 _ h16 HM4 HlM4.out HNu HA9 HC13 H30.out HZ8 HZ6 H38.out H36.out HG13.out HB313 _ _ _ _ _ _ _ _ _ _ _ _ _ _ _ _ _ _ _ _ _ _ _ _ _ _ _ _ _ _ _ _ _ _ _ _ _ _ _ _ _ _ _ _ _ _ _ _ _ _ _ _ _ _ _ _ _ _ _ _ _ _ _ _ _ _ _ _ _ _ _ _ _ _ _ _ _ _ _ _ _ _ _ _ _ _ _ _ _ _ _ _ _ _ _ _ _ _ _ _ _ _ _ _ _ _ _ _ _ _ _ _ _ _ _ _ _ _ _ _ _ _ _ _ _ _ _ _ _ _ _ _ _ _ _ _ _ _ _ _ _ _ _ _ _ _ _ _ _ _ _ _ _ _ _ _ _ _ _ _ _ _ _ _ _ _ _ _ _ _ _ _ _ _ _ _ _ _ _ _ _ _ _ _ _ _ _ _ _ _ _ _ _ _ _ _ _ _ _ _ _ _ _ _ _ _ _ _ _ _ _ _ _ _ _ _ _ _ _ _ _ _ _ _ _ _ _ _ _ _ _ _ _ _ _ _ _ _ _ _ _ _ _ _ _ _ _ _ _ _ _ _ _ _ _ _ _ _ _ _ _ _ _ _ _ _ _ _ _ _ _ _ _ _ _ _ _ _ _ _ _ _ _ _ _ _ _ _ _ _ _ _ _ _ _ _ _ _ _ _ _ _ _ _ _ _ _ _ _ ?hexit ?hret HX13
 case hret =>
  intro w15 i v19 v240 v241 v242 v243 v244 v245 v246 v247 v248 v249 v250 v251 v252 v253 v254 v255 v256 v257 v258 v259 v260 v261 v262 v263 v264 v265 v266 v267 v268 v269 v270 v271 v272 v273 v274 v275 v276 v277 v278 v279 v280 v281 v282 v283 v284 v285 v286 v287 v288 v289 v290 v291 v292 HiN Hbad HBG
  have HK15 := Lib.hid (HK3.out.later (HBG.out.below HB313.out (Nat.le_of_lt HG13.out)))
  obtain rfl : res = none := Hres.out.symm.trans (takeK_flag (c := ⟨(N : Int), q, r, p, kk, cc⟩) (N := N) rfl HSo.out HTb.out HCt.out HCu.out HSt.out hne.out HSu.out (Nat.le_of_lt HiN.out) Hbad.out)
  have hz6 := HK15.out.2.2.1
  have HZn := Lib.hid (bk12_whole (x := bk0) (rv := .slice none 0 0) (lv := .slice none 0 0) (ov := .slice none 0 0) (nv := .slice none 0 0) (tv := .slice none 0 0) (uv := .slice none 0 0) (iv := .slice none 0 0) hz6)
  have HTn := Lib.hid (took_none HK15.out.1)
  clear hz6
  obtain ⟨⟨Z0, Z1, Z2, Z3⟩, ⟨Z4, Z5, Z6, Z7⟩, Z8, Z9, Z10, Z11⟩ := bk_cells HZn.out
  exact bodyPost_ret (v := .tuple #[.agg (bkCells bk0 (.slice none 0 0) (.slice none 0 0) (.slice none 0 0) (.slice none 0 0) (.slice none 0 0) (.slice none 0 0) (.slice none 0 0)), .bool false]) (by simp [results, Tryz.results8, go_sem, Z0, Z1, Z2, Z3, Z4, Z5, Z6, Z7, Z8, Z9, Z10, Z11]) rfl HTn.out
 case hexit =>
 intro w15 tv uv iv v7 v240 v241 v242 v243 v244 v245 v246 v247 v248 v249 v250 v251 v252 v253 v254 v255 v256 v257 v258 v259 v260 v261 v262 v263 v264 v265 v266 v267 v268 v269 v270 v271 v272 v273 v274 v275 v276 v277 v278 v279 v280 v281 v282 v283 v284 v285 v286 v287 v288 v289 v290 v291 v292 Hfl HBG HXr HT HU HI HAP
 have HB315 := Lib.hid (HBG.out.below HB313.out (Nat.le_of_lt HG13.out))
 have HK15 := Lib.hid (HK3.out.later HB315.out)
 have HBr15 := Lib.hid (Bytes.butG HBr13.out HBG.out HX13.out (by intro v h; rcases h with h | h | h | h | h | h <;> exact ⟨_, _, _, h⟩))
 have HLi15 : Hid (Line w15 (.slice A4 aL C4) (mkPairs who ls)) := Elems.butG HLi13.out HBG.out (fun ad h => Nat.ne_of_gt (HA4.out ad h))
 have HOu15 : Hid (Line w15 (.slice A6 aO C6) (mkPairs who os)) := Elems.butG HOu13.out HBG.out (fun ad h => Nat.ne_of_gt (HA6.out ad h))
 have HNo15 : Hid (Notes w15 (.slice A8 N C8) (mkNotes ts N)) := Elems.butG HNo13.out HBG.out (fun ad h => Nat.ne_of_gt (HA8.out ad h))
 have u1 := HBG.out.cell_of U1.out (show b9 ≠ w3.heap.size from HA9.out ⟨b9, o9, none⟩ rfl)
 obtain ⟨At, Ct, rfl, hEt, hAt⟩ := own_split HT.out (Nat.le_trans h16 (by decide))
 obtain ⟨Au, Cu, rfl, hEu, hAu⟩ := own_split HU.out (Nat.le_trans h16 (by decide))
 obtain ⟨Ai, Ci, rfl, hEi, hAi⟩ := own_split HI.out (Nat.le_trans h16 (by decide))
 have HEt := Lib.hid hEt; have HEu := Lib.hid hEu; have HEi := Lib.hid hEi
 have HAt : Hid (∀ ad, At = some ad → w3.heap.size < ad.block) := fun ad h => Nat.lt_of_lt_of_le HG13.out (hAt ad h)
 have HAu : Hid (∀ ad, Au = some ad → w3.heap.size < ad.block) := fun ad h => Nat.lt_of_lt_of_le HG13.out (hAu ad h)
 have HAi : Hid (∀ ad, Ai = some ad → w3.heap.size < ad.block) := fun ad h => Nat.lt_of_lt_of_le HG13.out (hAi ad h)
 clear hEt hEu hEi hAt hAu hAi HT HU HI HAP HBG HX13 HBr13 HLi13 HOu13 HNo13 HNu HC13 HZ6 HZ8 HK13
 obtain ⟨mvb, Hmv⟩ : ∃ z, Hid ((y3 == 1) = z) := ⟨_, Lib.hid rfl⟩
 have s3 : (y3 == 1) = mvb := Hmv.out
 obtain ⟨_, _, _, _, x11⟩ := (show _ ∧ _ ∧ _ ∧ _ ∧ _ from ⟨trivial, trivial, trivial, trivial, (bk_cells HXr.out).2.2.2.2.2⟩)
 simp only at x11
 have y11 := HXr.out.free 11
 have hlx := HXr.out.lt
 have HX16 := Lib.hid (bk_set11 (b := mvb) HXr.out)
 have HBG16 := Lib.hid ((ButG.refl w3.heap.size w15).set 11 (.bool mvb))
 obtain ⟨d0, d1, d2, d3, d4, d5⟩ := config_cells HK15.out.2.1
 simp only at d0 d1 d2 d3 d4 d5
 go_upto_region 48 with fail
 obtain ⟨w16, hw16⟩ : ∃ z, z = w15.setCell ⟨w3.heap.size, 11, none⟩ (.bool mvb) := ⟨_, rfl⟩
 rw [← hw16] at HX16 HBG16 ⊢
 clear hw16 x11 y11 d0 d1 d2 d3 d4 d5 u1 s3 e1 j1 j2 hlx
 have HG15 : Hid (w3.heap.size < w15.heap.size) := HXr.out.lt
 have HB316 := Lib.hid (HBG16.out.below HB315.out (Nat.le_of_lt HG15.out))
 have HK16 := Lib.hid (HK3.out.later HB316.out)
 have HLi16 : Hid (Line w16 (.slice A4 aL C4) (mkPairs who ls)) := Elems.butG HLi15.out HBG16.out (fun ad h => Nat.ne_of_gt (HA4.out ad h))
 have HOu16 : Hid (Line w16 (.slice A6 aO C6) (mkPairs who os)) := Elems.butG HOu15.out HBG16.out (fun ad h => Nat.ne_of_gt (HA6.out ad h))
 have HNo16 : Hid (Notes w16 (.slice A8 N C8) (mkNotes ts N)) := Elems.butG HNo15.out HBG16.out (fun ad h => Nat.ne_of_gt (HA8.out ad h))
 have HTo16 : Hid (Bools w16 (.slice At N Ct) ((List.range N).map (tellF us))) := bools_of (Elems.butG HEt.out HBG16.out (fun ad h => Nat.ne_of_gt (HAt.out ad h)))
 have HUs16 : Hid (Nums w16 (.slice Au N Cu) ((List.range N).map (useF us))) := nums_of (Elems.butG HEu.out HBG16.out (fun ad h => Nat.ne_of_gt (HAu.out ad h)))
 have HIc16 : Hid (Nums w16 (.slice Ai N Ci) ((List.range N).map (incF us))) := nums_of (Elems.butG HEi.out HBG16.out (fun ad h => Nat.ne_of_gt (HAi.out ad h)))
 have hbig6 : r6.length ≤ 9223372036854775807 := HBr15.out.1
 have Hau : Hid (mkAu N (ts[1 + 7 * N]?.getD 0) (ts[2 + 7 * N]?.getD 0) us = ⟨y1, y2, (List.range N).map (tellF us), (List.range N).map (useF us), (List.range N).map (incF us), mvb⟩) := by
  show _ = _
  unfold mkAu
  rw [Hy1.out, Hy2.out, show 3 * N = P from HP.out, ← one_cast, Hy3.out, Hmv.out]
  rfl
 have Hfl2 : Hid (∀ i, i ≤ N → us[3 * i]?.getD 0 = 0 ∨ us[3 * i]?.getD 0 = 1) := fun i hi => by
  by_cases e : i = N
  · subst e; exact Hflag.out
  · exact Hfl.out i (Nat.lt_of_le_of_ne hi e)
 clear HXr HBG16 HBr15 HLi15 HOu15 HNo15 HEt HEu HEi HK15 Hfl Hflag Hfb Hmv
 by_cases hm : 0 < r6.length
 · have g1 : (0 : Int) < (r6.length : Int) := by omega
   obtain rfl : res = none := Hres.out.symm.trans (takeK_more (c := ⟨(N : Int), q, r, p, kk, cc⟩) (N := N) rfl HSo.out HTb.out HCt.out HCu.out HSt.out hne.out HSu.out hm)
   have hz8 := HK16.out.2.2.2
   have hz6 := HK16.out.2.2.1
   obtain ⟨⟨p0, p1, p2, p3⟩, ⟨p4, p5, p6, p7⟩, p8, p9, p10, p11⟩ := bk_cells hz8
   obtain ⟨⟨q0, q1, q2, q3⟩, ⟨q4, q5, q6, q7⟩, q8, q9, q10, q11⟩ := bk_cells hz6
   simp only at p0 p4 p6 p7 p11 q0 q4 q6 q7 q11
   have fq := hz6.free
   have hl6 := hz6.lt
   have hl8 := hz8.lt
   have HZn := Lib.hid (bk12_whole (x := bk0) (rv := .slice none 0 0) (lv := .slice none 0 0) (ov := .slice none 0 0) (nv := .slice none 0 0) (tv := .slice none 0 0) (uv := .slice none 0 0) (iv := .slice none 0 0) hz6)
   have HTn := Lib.hid (took_none HK16.out.1)
   clear hz8 hz6
   go_wp2_with fail
   obtain ⟨⟨Z0, Z1, Z2, Z3⟩, ⟨Z4, Z5, Z6, Z7⟩, Z8, Z9, Z10, Z11⟩ := bk_cells HZn.out
   simp only [bk12] at Z0 Z1 Z2 Z3 Z4 Z5 Z6 Z7 Z8 Z9 Z10 Z11
   exact bodyPost_ret (v := .tuple #[.agg (bkCells bk0 (.slice none 0 0) (.slice none 0 0) (.slice none 0 0) (.slice none 0 0) (.slice none 0 0) (.slice none 0 0) (.slice none 0 0)), .bool false]) (by simp [results, Tryz.results8, go_sem, Z0, Z1, Z2, Z3, Z4, Z5, Z6, Z7, Z8, Z9, Z10, Z11]) rfl HTn.out
 have g1 : ¬ (0 : Int) < (r6.length : Int) := by omega
 have hend := takeK_end (who := who) (c := ⟨(N : Int), q, r, p, kk, cc⟩) (N := N) rfl HSo.out HTb.out HCt.out HCu.out HSt.out hne.out HSu.out Hfl2.out hm
 rw [Hmk.out, Hau.out] at hend
 have HEnd := Lib.hid (Hres.out.symm.trans hend); clear hend
 have hin : BkIn w16 ⟨A2, rows.length, C2, A4, aL, C4, A6, aO, C6, A8, N, C8, ⟨At, N, Ct, Au, N, Cu, Ai, N, Ci⟩⟩ ⟨(k1 : Int), rows, mkPairs who ls, mkPairs who os, ak, mkNotes ts N, ⟨y1, y2, (List.range N).map (tellF us), (List.range N).map (useF us), (List.range N).map (incF us), mvb⟩⟩ := ⟨⟨rfl, (HBf3.out.later HB316.out).1⟩, ⟨(pairs_len HPl.out).symm, HLi16.out⟩, ⟨(pairs_len HPo.out).symm, HOu16.out⟩, ⟨(mknotes_len ts N).symm, HNo16.out⟩, ⟨⟨(range_len _ _).symm, HTo16.out⟩, ⟨(range_len _ _).symm, HUs16.out⟩, (range_len _ _).symm, HIc16.out⟩⟩
 have HIn := Lib.hid hin; clear hin
 obtain ⟨bb, Hbb⟩ : ∃ z, Hid (bookB ⟨(N : Int), q, r, p, kk, cc⟩ who ⟨(k1 : Int), rows, mkPairs who ls, mkPairs who os, ak, mkNotes ts N, ⟨y1, y2, (List.range N).map (tellF us), (List.range N).map (useF us), (List.range N).map (incF us), mvb⟩⟩ = z) := ⟨_, rfl⟩
 have hcall := refkmay_calls ⟨(N : Int), q, r, p, kk, cc⟩ who ⟨(k1 : Int), rows, mkPairs who ls, mkPairs who os, ak, mkNotes ts N, ⟨y1, y2, (List.range N).map (tellF us), (List.range N).map (useF us), (List.range N).map (incF us), mvb⟩⟩ ⟨A2, rows.length, C2, A4, aL, C4, A6, aO, C6, A8, N, C8, ⟨At, N, Ct, Au, N, Cu, Ai, N, Ci⟩⟩ w16 HIn.out
 rw [Hbb.out] at hcall
 simp only [bkAt, bkAtC, bkCells] at hcall
 have Hcall := Lib.hid hcall; clear hcall
 rw [Hbb.out] at HEnd
 obtain ⟨d0, d1, d2, d3, d4, d5⟩ := config_cells HK16.out.2.1
 simp only at d0 d1 d2 d3 d4 d5
 obtain ⟨⟨m0, m1, m2, m3⟩, ⟨m4, m5, m6, m7⟩, m8, m9, m10, m11⟩ := bk_cells HX16.out
 simp only at m0 m4 m6 m7 m11
 go_wp2_with fail
 refine Hcall.out.mono ?_
 rintro e w20 ⟨rfl, hb⟩
 have HK20 := Lib.hid (HK16.out.later hb)
 have HX20 := Lib.hid (HX16.out.later hb HX16.out.lt)
 have HI20 := Lib.hid (HIn.out.later hb)
 have HF20 := Lib.hid ((HBf3.out.later HB316.out).later hb)
 clear hb d0 d1 d2 d3 d4 d5 m0 m1 m2 m3 m4 m5 m6 m7 m8 m9 m10 m11 Hcall HIn
 cases bb with
 | false =>
   obtain rfl : res = none := HEnd.out.trans (if_neg (by simp))
   have hz8 := HK20.out.2.2.2
   have hz6 := HK20.out.2.2.1
   obtain ⟨⟨p0, p1, p2, p3⟩, ⟨p4, p5, p6, p7⟩, p8, p9, p10, p11⟩ := bk_cells hz8
   obtain ⟨⟨q0, q1, q2, q3⟩, ⟨q4, q5, q6, q7⟩, q8, q9, q10, q11⟩ := bk_cells hz6
   simp only at p0 p4 p6 p7 p11 q0 q4 q6 q7 q11
   have fq := hz6.free
   have hl6 := hz6.lt
   have hl8 := hz8.lt
   have HZn := Lib.hid (bk12_whole (x := bk0) (rv := .slice none 0 0) (lv := .slice none 0 0) (ov := .slice none 0 0) (nv := .slice none 0 0) (tv := .slice none 0 0) (uv := .slice none 0 0) (iv := .slice none 0 0) hz6)
   have HTn := Lib.hid (took_none HK20.out.1)
   clear hz8 hz6
   go_wp2_with fail
   obtain ⟨⟨Z0, Z1, Z2, Z3⟩, ⟨Z4, Z5, Z6, Z7⟩, Z8, Z9, Z10, Z11⟩ := bk_cells HZn.out
   simp only [bk12] at Z0 Z1 Z2 Z3 Z4 Z5 Z6 Z7 Z8 Z9 Z10 Z11
   exact bodyPost_ret (v := .tuple #[.agg (bkCells bk0 (.slice none 0 0) (.slice none 0 0) (.slice none 0 0) (.slice none 0 0) (.slice none 0 0) (.slice none 0 0) (.slice none 0 0)), .bool false]) (by simp [results, Tryz.results8, go_sem, Z0, Z1, Z2, Z3, Z4, Z5, Z6, Z7, Z8, Z9, Z10, Z11]) rfl HTn.out
 | true =>
   obtain rfl : res = some ⟨(k1 : Int), rows, mkPairs who ls, mkPairs who os, ak, mkNotes ts N, ⟨y1, y2, (List.range N).map (tellF us), (List.range N).map (useF us), (List.range N).map (incF us), mvb⟩⟩ := HEnd.out.trans (if_pos rfl)
   have hz6 := HK20.out.2.2.1
   obtain ⟨⟨p0, p1, p2, p3⟩, ⟨p4, p5, p6, p7⟩, p8, p9, p10, p11⟩ := bk_cells HX20.out
   obtain ⟨⟨q0, q1, q2, q3⟩, ⟨q4, q5, q6, q7⟩, q8, q9, q10, q11⟩ := bk_cells hz6
   simp only at p0 p4 p6 p7 p11 q0 q4 q6 q7 q11
   have fq := hz6.free
   have hl6 := hz6.lt
   have hl8 := HX20.out.lt
   have HZn := Lib.hid (bk12_whole (x := ⟨(k1 : Int), rows, mkPairs who ls, mkPairs who os, ak, mkNotes ts N, ⟨y1, y2, (List.range N).map (tellF us), (List.range N).map (useF us), (List.range N).map (incF us), mvb⟩⟩) (rv := (.slice A2 rows.length C2)) (lv := .slice A4 aL C4) (ov := .slice A6 aO C6) (nv := .slice A8 N C8) (tv := (.slice At N Ct)) (uv := (.slice Au N Cu)) (iv := (.slice Ai N Ci)) hz6)
   have HTn := Lib.hid (took_some (x := ⟨(k1 : Int), rows, mkPairs who ls, mkPairs who os, ak, mkNotes ts N, ⟨y1, y2, (List.range N).map (tellF us), (List.range N).map (useF us), (List.range N).map (incF us), mvb⟩⟩) (p := ⟨A2, rows.length, C2, A4, aL, C4, A6, aO, C6, A8, N, C8, ⟨At, N, Ct, Au, N, Cu, Ai, N, Ci⟩⟩) HK20.out.1 HI20.out HF20.out Hw23.out ⟨(fun ad h => Nat.ne_of_gt (Nat.lt_trans Hw6.out (HA4.out ad h))), (fun ad h => Nat.ne_of_gt (Nat.lt_trans Hw6.out (HA6.out ad h))), (fun ad h => Nat.ne_of_gt (Nat.lt_trans Hw6.out (HA8.out ad h))), (fun ad h => Nat.ne_of_gt (Nat.lt_trans Hw6.out (HAt.out ad h))), (fun ad h => Nat.ne_of_gt (Nat.lt_trans Hw6.out (HAu.out ad h))), (fun ad h => Nat.ne_of_gt (Nat.lt_trans Hw6.out (HAi.out ad h)))⟩ (.slice A2 rows.length C2) (.slice A4 aL C4) (.slice A6 aO C6) (.slice A8 N C8) (.slice At N Ct) (.slice Au N Cu) (.slice Ai N Ci))
   clear hz6
   go_wp2_with fail
   obtain ⟨⟨Z0, Z1, Z2, Z3⟩, ⟨Z4, Z5, Z6, Z7⟩, Z8, Z9, Z10, Z11⟩ := bk_cells HZn.out
   simp only [bk12] at Z0 Z1 Z2 Z3 Z4 Z5 Z6 Z7 Z8 Z9 Z10 Z11
   exact bodyPost_ret (v := .tuple #[bkAt ⟨(k1 : Int), rows, mkPairs who ls, mkPairs who os, ak, mkNotes ts N, ⟨y1, y2, (List.range N).map (tellF us), (List.range N).map (useF us), (List.range N).map (incF us), mvb⟩⟩ ⟨A2, rows.length, C2, A4, aL, C4, A6, aO, C6, A8, N, C8, ⟨At, N, Ct, Au, N, Cu, Ai, N, Ci⟩⟩, .bool true]) (by simp [results, Tryz.results8, go_sem, Z0, Z1, Z2, Z3, Z4, Z5, Z6, Z7, Z8, Z9, Z10, Z11]) rfl HTn.out
end Go.Proofs.YtnkgakhnlbifdaaGreat
