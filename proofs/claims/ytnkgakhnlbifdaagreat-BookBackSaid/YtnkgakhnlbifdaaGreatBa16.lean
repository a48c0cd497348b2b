/- Parts, as far as BookBackCards reaches them, of: RefBookPut. No law is proved here. -/
import Derived.Test.YtnkgakhnlbifdaaGreatBa8
import Derived.Test.YtnkgakhnlbifdaaGreatBa15
import Derived.Test.YtnkgakhnlbifdaaGreatBa7
import Derived.Test.YtnkgakhnlbifdaaGreatBa14
import Derived.BigRegion
import Derived.WalkSmall
namespace Go.Proofs.YtnkgakhnlbifdaaGreat
open Go.RowKit
theorem painted_later {w wx wy : World} {v : Value} {zs P : List Int} (h : Painted w wx v zs P) (hb : Below wx.heap.size wx wy) : Painted w wy v zs P := ⟨h.1.later hb, held_next h.2 hb⟩
theorem ownN_of {w : World} {b : Nat} {v : Value} {l l' : List Int} (h : OwnN w b v l) (e : l = l') : OwnN w b v l' := e ▸ h
attribute [local go_sem ↓] run_fine
set_option maxRecDepth 1000000 in
set_option maxHeartbeats 16000000 in
theorem refkput_calls (x : Bk) (p : Bl) (w : World) (hK : BkIn w p x) (hs : p.m2 ≤ 40 ∧ p.m3 ≤ 40 ∧ p.m4 ≤ 40 ∧ p.al.m1 ≤ 40 ∧ p.al.m2 ≤ 40 ∧ p.al.m3 ≤ 40) (hroom : 10 * (allK x).length ≤ 140737488350000) :
 Calls Tryz.prog 12 #[bkAt x p] w (Made w (bookBytes x)) := by
 have HX := Lib.hid (Whole.made w 37 (bkAtC x p))
 have Hb0 := Lib.hid (below_box w (.cells (bkAtC x p) 37))
 obtain ⟨⟨hm1, hB1⟩, ⟨hm2, hB2⟩, ⟨hm3, hB3⟩, ⟨hm4, hB4⟩, hA⟩ := hK
 have ba : p.al.m1 ≤ 9223372036854775807 ∧ p.al.m2 ≤ 9223372036854775807 ∧ p.al.m3 ≤ 9223372036854775807 := by omega
 obtain ⟨s2, s3, s4, s5, s6, s7⟩ := hs
 have hall : allK x = x.clk :: (flatR x.rows ++ restN x) := rfl
 have hbytes : bookBytes x = [] ++ bytesN (((x.clk :: flatR x.rows) ++ restN x).map u64n) := rfl
 have Hroom := Lib.hid hroom; clear hroom
 have Hall := Lib.hid hall; clear hall
 have Hbytes := Lib.hid hbytes; clear hbytes
 obtain ⟨clk, rows, line, outs, asks, notes, ⟨tr, ph, told, use, inc, moved⟩⟩ := x
 obtain ⟨a1, m1, c1, a2, m2, c2, a3, m3, c3, a4, m4, c4, ⟨a5, m5, c5, a6, m6, c6, a7, m7, c7⟩⟩ := p
 simp only at hm1 hB1 hm2 hB2 hm3 hB3 hm4 hB4 ba s2 s3 s4 s5 s6 s7
 have HB1 := Lib.hid hB1; clear hB1
 have HB2 := Lib.hid hB2; clear hB2
 have HB3 := Lib.hid hB3; clear hB3
 have HB4 := Lib.hid hB4; clear hB4
 have HA := Lib.hid hA; clear hA
 have HBa := Lib.hid ba; clear ba
 have Hm1 := Lib.hid hm1; clear hm1
 have Hm2 := Lib.hid hm2; clear hm2
 have Hm3 := Lib.hid hm3; clear hm3
 have Hm4 := Lib.hid hm4; clear hm4
 obtain ⟨res, Hres⟩ : ∃ z, Hid (bookBytes ⟨clk, rows, line, outs, asks, notes, ⟨tr, ph, told, use, inc, moved⟩⟩ = z) := ⟨_, rfl⟩
 rw [Hres.out]
 obtain ⟨⟨e0, e1, e2, e3⟩, ⟨e4, e5, e6, e7⟩, e8, e9, e10, e11⟩ := bk_cells HX.out
 simp only at e0 e1 e2 e3 e4 e5 e6 e7 e8 e9 e10 e11
 have hN1 := nums_made (l := [clk]) (Whole.made (w.alloc (.cells (bkAtC ⟨clk, rows, line, outs, asks, notes, ⟨tr, ph, told, use, inc, moved⟩⟩ ⟨a1, m1, c1, a2, m2, c2, a3, m3, c3, a4, m4, c4, ⟨a5, m5, c5, a6, m6, c6, a7, m7, c7⟩⟩) 37)) 2 #[.int .i64 clk]) (by show 1 ≤ 1000; decide)
 have hb01 := below_two w (.cells (bkAtC ⟨clk, rows, line, outs, asks, notes, ⟨tr, ph, told, use, inc, moved⟩⟩ ⟨a1, m1, c1, a2, m2, c2, a3, m3, c3, a4, m4, c4, ⟨a5, m5, c5, a6, m6, c6, a7, m7, c7⟩⟩) 37) (.cells #[.int .i64 clk] 2)
 have hsz : (w.alloc (.cells (bkAtC ⟨clk, rows, line, outs, asks, notes, ⟨tr, ph, told, use, inc, moved⟩⟩ ⟨a1, m1, c1, a2, m2, c2, a3, m3, c3, a4, m4, c4, ⟨a5, m5, c5, a6, m6, c6, a7, m7, c7⟩⟩) 37)).heap.size = w.heap.size + 1 := by simp
 rw [hsz] at hN1
 have HN1 := Lib.hid hN1; have Hb01 := Lib.hid hb01
 have HX1 := Lib.hid (HX.out.alloc (.cells #[.int .i64 clk] 2))
 clear hN1 hb01 hsz
 go_enter Tryz.func12, Tryz.ntmps12
 go_wp2_with fail
 refine (refnumbers_calls none 0 0 [] _ 1 1 [clk] rfl (by decide) rfl (by decide) (by show 0 + 10 * 1 ≤ _; decide) _ (bytes_nil _ _ _ (fun _ => rfl)) HN1.out).mono ?_
 rintro e w1 ⟨vb, rfl, hb, hf⟩
 have HP1 : Hid (Painted w w1 vb [] [clk]) := ⟨hf.mono Hb01.out.size, held_next Hb01.out hb⟩
 have HX2 := Lib.hid (HX1.out.later hb HX1.out.lt)
 clear hb hf e0 e1 e2 e3 e4 e5 e6 e7 e8 e9 e10 e11
 obtain ⟨⟨e0, e1, e2, e3⟩, ⟨e4, e5, e6, e7⟩, e8, e9, e10, e11⟩ := bk_cells HX2.out
 simp only at e0 e1 e2 e3 e4 e5 e6 e7 e8 e9 e10 e11
 go_wp2_with fail
 refine (refpaint_more w _ vb [clk] a1 m1 c1 rows Hm1.out HP1.out (HB1.out.later HP1.out.2) (by
  have h1 := Hroom.out; rw [Hall.out] at h1; simp only [List.length_cons, List.length_append, List.length_nil] at h1 ⊢; omega)).mono ?_
 rintro e w2 ⟨vb, rfl, hp, hb⟩
 have HP2 : Hid (Painted w w2 vb [] (clk :: flatR rows)) := Lib.hid hp
 have HX3 := Lib.hid (HX2.out.later hb HX2.out.lt)
 clear hb hp e0 e1 e2 e3 e4 e5 e6 e7 e8 e9 e10 e11
 obtain ⟨⟨e0, e1, e2, e3⟩, ⟨e4, e5, e6, e7⟩, e8, e9, e10, e11⟩ := bk_cells HX3.out
 simp only at e0 e1 e2 e3 e4 e5 e6 e7 e8 e9 e10 e11
 have hO0 : OwnN (w2.alloc (.cells #[.int .i64 (m2 : Int)] 2)) w2.heap.size (.slice (some ⟨w2.heap.size, 0, none⟩) 1 1) [(m2 : Int)] := first_nums (k := [(m2 : Int)]) (by simp) (Nat.le_refl _)
 have HO0 := Lib.hid hO0; clear hO0
 have Hb20 := Lib.hid (below_box w2 (.cells #[.int .i64 (m2 : Int)] 2))
 have b2 : m2 ≤ 9223372036854775807 := by omega
 have b3 : m3 ≤ 9223372036854775807 := by omega
 have b4 : m4 ≤ 9223372036854775807 := by omega
 go_wp2_with fail
 clear e0 e1 e2 e3 e4 e5 e6 e7 e8 e9 e10 e11
 go_loopw [4, 5] (fun v4 v5 wr => ∃ (k : Nat) (lv : Value), k ≤ m2 ∧ v5 = .int .i64 (k : Int) ∧ v4 = lv ∧ Hid (Below w2.heap.size w2 wr) ∧ Hid (OwnN wr w2.heap.size lv ((m2 : Int) :: pairN (line.take k)))) (fun _ v5 _ => m2 - (intOf v5).toNat)
 case atStart => exact ⟨0, _, Nat.zero_le _, rfl, rfl, Hb20.out, HO0.out⟩
 case round =>
  obtain ⟨k, lv, hk, rfl, hlv, Hbr, HO⟩ := hrel
  have hlv' := hlv.symm
  subst hlv'
  clear hlv
  have HXr := Lib.hid (HX3.out.later Hbr.out HX3.out.lt)
  obtain ⟨⟨e0, e1, e2, e3⟩, ⟨e4, e5, e6, e7⟩, e8, e9, e10, e11⟩ := bk_cells HXr.out
  simp only at e0 e1 e2 e3 e4 e5 e6 e7 e8 e9 e10 e11
  by_cases hlt : k < m2
  · obtain ⟨bb, off, rfl, g0, g1, g2⟩ := (HB2.out.later (held_next HP2.out.2 Hbr.out)).at (i := k) (by have := Hm2.out; omega)
    obtain ⟨y, Hy⟩ : ∃ z, Hid (rqAt line k = z) := ⟨_, rfl⟩
    rw [Hy.out] at g0 g1 g2
    obtain ⟨yt, ya, ym⟩ := y
    simp only at g0 g1 g2
    have k0 : (0 : Int) ≤ (k : Int) := by omega
    have k1 : (k : Int) < (m2 : Int) := by omega
    obtain ⟨A, C, wn, hrun, h2, _, h4, h5⟩ := push_nums (wb := (wr.alloc (.cells #[.int .i64 yt, .int .i64 ym] 2)).drew) (k := [yt, ym]) HO.out (below_box _ _).drew (Whole.made _ _ _).drew (by simp) (by rw [List.length_cons, pairN_len, List.length_take]; omega) Hbr.out.size
    obtain ⟨hf1, hv1, hw1⟩ := fine_of hrun
    simp only [show ([yt, ym] : List Int).length = 2 from rfl] at hf1 hv1 hw1
    obtain ⟨q, Hq⟩ : ∃ z, Hid ((((m2 : Int) :: pairN (line.take k)) ++ [yt, ym]).length = z) := ⟨_, rfl⟩
    rw [Hq.out] at hv1 h2 h5
    have HOn := Lib.hid h2
    have Hbn := Lib.hid (Hbr.out.trans h4)
    have HGn := Lib.hid h5
    clear hrun h2 h4 h5
    have HT : Hid (((m2 : Int) :: pairN (line.take k)) ++ [yt, ym] = (m2 : Int) :: pairN (line.take (k + 1))) := by
     show _ = _
     rw [pairN_take (by rw [← Hm2.out]; exact hlt) Hy.out]; rfl
    go_wp2_with fail
    go_region
    go_wp2_with fail
    go_roundw
    case rel => exact ⟨k + 1, _, by omega, by go_num, rfl, Hbn, ownN_of HOn.out HT.out⟩
    case measure => simp [intOf]; omega
  · obtain rfl : m2 = k := by omega
    obtain ⟨L1, HL1⟩ : ∃ z, Hid ((m2 : Int) :: pairN line = z) := ⟨_, rfl⟩
    have HO1 : Hid (OwnN wr w2.heap.size lv L1) := by
     have h := HO.out
     rw [List.take_of_length_le (by rw [← Hm2.out]; exact Nat.le_refl _), HL1.out] at h
     exact h
    have hL1 : L1.length ≤ 81 := by rw [← HL1.out, List.length_cons, pairN_len, ← Hm2.out]; omega
    clear HO
    obtain ⟨A, C, wn, hrun, h2, _, h4, h5⟩ := push_nums (wb := (wr.alloc (.cells #[.int .i64 (m3 : Int)] 2))) (k := [(m3 : Int)]) HO1.out (below_box _ _) (Whole.made _ _ _) (by simp) (by omega) Hbr.out.size
    obtain ⟨hf1, hv1, hw1⟩ := fine_of hrun
    simp only [show ([(m3 : Int)] : List Int).length = 1 from rfl] at hf1 hv1 hw1
    obtain ⟨q, Hq⟩ : ∃ z, Hid ((L1 ++ [(m3 : Int)]).length = z) := ⟨_, rfl⟩
    rw [Hq.out] at hv1 h2 h5
    have HOn := Lib.hid h2
    have Hbn := Lib.hid (Hbr.out.trans h4)
    have HGn := Lib.hid h5
    clear hrun h2 h4 h5
    obtain ⟨L2, HL2⟩ : ∃ z, Hid (L1 ++ [(m3 : Int)] = z) := ⟨_, rfl⟩
    rw [HL2.out] at HOn
    have hL2 : L2.length ≤ 82 := by rw [← HL2.out, List.length_append, List.length_singleton]; omega
    go_wp2_with fail
    clear e0 e1 e2 e3 e4 e5 e6 e7 e8 e9 e10 e11
    clear hf1 hv1 hw1
    go_loopw [4, 6] (fun v4 v6 wr => ∃ (k : Nat) (lv : Value), k ≤ m3 ∧ v6 = .int .i64 (k : Int) ∧ v4 = lv ∧ Hid (Below w2.heap.size w2 wr) ∧ Hid (OwnN wr w2.heap.size lv (L2 ++ pairN (outs.take k)))) (fun _ v6 _ => m3 - (intOf v6).toNat)
    case atStart => exact ⟨0, _, Nat.zero_le _, rfl, rfl, Hbn, ownN_of HOn.out (by simp [pairN])⟩
    case round =>
     clear HOn Hbn HGn Hq HXr Hbr
     obtain ⟨k, lv, hk, rfl, hlv, Hbr, HO⟩ := hrel
     have hlv' := hlv.symm
     subst hlv'
     clear hlv
     have HXr := Lib.hid (HX3.out.later Hbr.out HX3.out.lt)
     obtain ⟨⟨e0, e1, e2, e3⟩, ⟨e4, e5, e6, e7⟩, e8, e9, e10, e11⟩ := bk_cells HXr.out
     simp only at e0 e1 e2 e3 e4 e5 e6 e7 e8 e9 e10 e11
     by_cases hlt : k < m3
     · obtain ⟨bb, off, rfl, g0, g1, g2⟩ := (HB3.out.later (held_next HP2.out.2 Hbr.out)).at (i := k) (by have := Hm3.out; omega)
       obtain ⟨y, Hy⟩ : ∃ z, Hid (rqAt outs k = z) := ⟨_, rfl⟩
       rw [Hy.out] at g0 g1 g2
       obtain ⟨yt, ya, ym⟩ := y
       simp only at g0 g1 g2
       have k0 : (0 : Int) ≤ (k : Int) := by omega
       have k1 : (k : Int) < (m3 : Int) := by omega
       obtain ⟨A, C, wn, hrun, h2, _, h4, h5⟩ := push_nums (wb := (wr.alloc (.cells #[.int .i64 yt, .int .i64 ym] 2)).drew) (k := [yt, ym]) HO.out (below_box _ _).drew (Whole.made _ _ _).drew (by simp) (by rw [List.length_append, pairN_len, List.length_take]; omega) Hbr.out.size
       obtain ⟨hf1, hv1, hw1⟩ := fine_of hrun
       simp only [show ([yt, ym] : List Int).length = 2 from rfl] at hf1 hv1 hw1
       obtain ⟨q, Hq⟩ : ∃ z, Hid (((L2 ++ pairN (outs.take k)) ++ [yt, ym]).length = z) := ⟨_, rfl⟩
       rw [Hq.out] at hv1 h2 h5
       have HOn := Lib.hid h2
       have Hbn := Lib.hid (Hbr.out.trans h4)
       have HGn := Lib.hid h5
       clear hrun h2 h4 h5
       have HT : Hid ((L2 ++ pairN (outs.take k)) ++ [yt, ym] = L2 ++ pairN (outs.take (k + 1))) := by
        show _ = _
        rw [pairN_take (by rw [← Hm3.out]; exact hlt) Hy.out, List.append_assoc]
       go_wp2_with fail
       go_region
       go_wp2_with fail
       go_roundw
       case rel => exact ⟨k + 1, _, by omega, by go_num, rfl, Hbn, ownN_of HOn.out HT.out⟩
       case measure => simp [intOf]; omega
     · obtain rfl : m3 = k := by omega
       obtain ⟨L3, HL3⟩ : ∃ z, Hid (L2 ++ pairN outs = z) := ⟨_, rfl⟩
       have HO1 : Hid (OwnN wr w2.heap.size lv L3) := by
        have h := HO.out
        rw [List.take_of_length_le (by rw [← Hm3.out]; exact Nat.le_refl _), HL3.out] at h
        exact h
       have hL3 : L3.length ≤ 162 := by rw [← HL3.out, List.length_append, pairN_len, ← Hm3.out]; omega
       clear HO
       obtain ⟨A, C, wn, hrun, h2, _, h4, h5⟩ := push_nums (wb := (wr.alloc (.cells #[.int .i64 asks] 2))) (k := [asks]) HO1.out (below_box _ _) (Whole.made _ _ _) (by simp) (by omega) Hbr.out.size
       obtain ⟨hf1, hv1, hw1⟩ := fine_of hrun
       simp only [show ([asks] : List Int).length = 1 from rfl] at hf1 hv1 hw1
       obtain ⟨q, Hq⟩ : ∃ z, Hid ((L3 ++ [asks]).length = z) := ⟨_, rfl⟩
       rw [Hq.out] at hv1 h2 h5
       have HOn := Lib.hid h2
       have Hbn := Lib.hid (Hbr.out.trans h4)
       have HGn := Lib.hid h5
       clear hrun h2 h4 h5
       obtain ⟨L4, HL4⟩ : ∃ z, Hid (L3 ++ [asks] = z) := ⟨_, rfl⟩
       rw [HL4.out] at HOn
       have hL4 : L4.length ≤ 163 := by rw [← HL4.out, List.length_append, List.length_singleton]; omega
       go_wp2_with fail
       clear e0 e1 e2 e3 e4 e5 e6 e7 e8 e9 e10 e11
       clear hf1 hv1 hw1
       go_loopw [4, 7] (fun v4 v7 wr => ∃ (k : Nat) (lv : Value), k ≤ m4 ∧ v7 = .int .i64 (k : Int) ∧ v4 = lv ∧ Hid (Below w2.heap.size w2 wr) ∧ Hid (OwnN wr w2.heap.size lv (L4 ++ notesN (notes.take k)))) (fun _ v7 _ => m4 - (intOf v7).toNat)
       case atStart => exact ⟨0, _, Nat.zero_le _, rfl, rfl, Hbn, ownN_of HOn.out (by simp [notesN])⟩
       case round =>
        clear HOn Hbn HGn Hq HXr Hbr
        obtain ⟨k, lv, hk, rfl, hlv, Hbr, HO⟩ := hrel
        have hlv' := hlv.symm
        subst hlv'
        clear hlv
        have HXr := Lib.hid (HX3.out.later Hbr.out HX3.out.lt)
        obtain ⟨⟨e0, e1, e2, e3⟩, ⟨e4, e5, e6, e7⟩, e8, e9, e10, e11⟩ := bk_cells HXr.out
        simp only at e0 e1 e2 e3 e4 e5 e6 e7 e8 e9 e10 e11
        by_cases hlt : k < m4
        · obtain ⟨bb, off, rfl, g0, g1, g2, g3, g4, g5, g6⟩ := (HB4.out.later (held_next HP2.out.2 Hbr.out)).at (i := k) (by have := Hm4.out; omega)
          obtain ⟨y, Hy⟩ : ∃ z, Hid (ntAt notes k = z) := ⟨_, rfl⟩
          rw [Hy.out] at g0 g1 g2 g3 g4 g5 g6
          obtain ⟨yk, yt, ya, ym, ys, yr, yp⟩ := y
          simp only at g0 g1 g2 g3 g4 g5 g6
          have k0 : (0 : Int) ≤ (k : Int) := by omega
          have k1 : (k : Int) < (m4 : Int) := by omega
          have hbx := below_box wr (.cells (ntCells ⟨yk, yt, ya, ym, ys, yr, yp⟩) 71)
          have hO2 := own_later HO.out hbx
          have hb2 := Hbr.out.trans (hbx.mono Hbr.out.size)
          have hsz : (wr.alloc (.cells (ntCells ⟨yk, yt, ya, ym, ys, yr, yp⟩) 71)).heap.size = wr.heap.size + 1 := by simp
          have hN := Whole.made wr 71 (ntCells ⟨yk, yt, ya, ym, ys, yr, yp⟩)
          obtain ⟨n0, n1, n2, n3, n4, n5, n6⟩ : _ ∧ _ ∧ _ ∧ _ ∧ _ ∧ _ ∧ _ := ⟨hN.cell 0, hN.cell 1, hN.cell 2, hN.cell 3, hN.cell 4, hN.cell 5, hN.cell 6⟩
          obtain ⟨A, C, wn, hrun, h2, _, h4, h5⟩ := push_nums (wb := ((wr.alloc (.cells (ntCells ⟨yk, yt, ya, ym, ys, yr, yp⟩) 71)).alloc (.cells #[.int .i64 yk, .int .i64 yt, .int .i64 ya, .int .i64 ym, .int .i64 ys, .int .i64 yr, .int .i64 yp] 2))) (k := [yk, yt, ya, ym, ys, yr, yp]) hO2 (below_box _ _) (Whole.made _ _ _) (by simp) (by rw [List.length_append, notesN_len, List.length_take]; omega) hb2.size
          obtain ⟨hf1, hv1, hw1⟩ := fine_of hrun
          simp only [show ([yk, yt, ya, ym, ys, yr, yp] : List Int).length = 7 from rfl] at hf1 hv1 hw1
          obtain ⟨q, Hq⟩ : ∃ z, Hid (((L4 ++ notesN (notes.take k)) ++ [yk, yt, ya, ym, ys, yr, yp]).length = z) := ⟨_, rfl⟩
          rw [Hq.out] at hv1 h2 h5
          have HOn := Lib.hid h2
          have Hbn := Lib.hid (hb2.trans h4)
          have HGn := Lib.hid h5
          clear hrun h2 h4 h5
          rw [hsz] at hf1 hv1 hw1
          have HT : Hid ((L4 ++ notesN (notes.take k)) ++ [yk, yt, ya, ym, ys, yr, yp] = L4 ++ notesN (notes.take (k + 1))) := by
           show _ = _
           rw [notesN_take (by rw [← Hm4.out]; exact hlt) Hy.out, List.append_assoc]; rfl
          clear hbx hO2 hb2 hN hsz
          go_wp2_with fail
          go_roundw
          case rel => exact ⟨k + 1, _, by omega, by go_num, rfl, Hbn, ownN_of HOn.out HT.out⟩
          case measure => simp [intOf]; omega
        · obtain rfl : m4 = k := by omega
          obtain ⟨L5, HL5⟩ : ∃ z, Hid (L4 ++ notesN notes = z) := ⟨_, rfl⟩
          have HO1 : Hid (OwnN wr w2.heap.size lv L5) := by
           have h := HO.out
           rw [List.take_of_length_le (by rw [← Hm4.out]; exact Nat.le_refl _), HL5.out] at h
           exact h
          have hL5 : L5.length ≤ 443 := by rw [← HL5.out, List.length_append, notesN_len, ← Hm4.out]; omega
          have hne := own_past HO1.out (Nat.le_refl _)
          have hbx := below_box wr (.cells (auCells ⟨tr, ph, told, use, inc, moved⟩ (.slice a5 m5 c5) (.slice a6 m6 c6) (.slice a7 m7 c7)) 35)
          have hO2 := own_later HO1.out hbx
          have hb2 := Hbr.out.trans (hbx.mono Hbr.out.size)
          have hsz : (wr.alloc (.cells (auCells ⟨tr, ph, told, use, inc, moved⟩ (.slice a5 m5 c5) (.slice a6 m6 c6) (.slice a7 m7 c7)) 35)).heap.size = wr.heap.size + 1 := by simp
          have hW := Whole.made wr 35 (auCells ⟨tr, ph, told, use, inc, moved⟩ (.slice a5 m5 c5) (.slice a6 m6 c6) (.slice a7 m7 c7))
          obtain ⟨q0, q1, q2, q3, q4, q5⟩ := au_cells hW
          simp only at q0 q1 q2 q3 q4 q5
          clear HO
          obtain ⟨A, C, wn, hrun, h2, _, h4, h5⟩ := push_nums (wb := ((wr.alloc (.cells (auCells ⟨tr, ph, told, use, inc, moved⟩ (.slice a5 m5 c5) (.slice a6 m6 c6) (.slice a7 m7 c7)) 35)).alloc (.cells #[.int .i64 tr, .int .i64 ph] 2))) (k := [tr, ph]) hO2 (below_box _ _) (Whole.made _ _ _) (by simp) (by omega) hb2.size
          obtain ⟨hf1, hv1, hw1⟩ := fine_of hrun
          simp only [show ([tr, ph] : List Int).length = 2 from rfl] at hf1 hv1 hw1
          obtain ⟨q, Hq⟩ : ∃ z, Hid ((L5 ++ [tr, ph]).length = z) := ⟨_, rfl⟩
          rw [Hq.out] at hv1 h2 h5
          have HOn := Lib.hid h2
          have Hbn := Lib.hid (hb2.trans h4)
          have HGn := Lib.hid h5
          clear hrun h2 h4 h5
          rw [hsz] at hf1 hv1 hw1
          obtain ⟨L6, HL6⟩ : ∃ z, Hid (L5 ++ [tr, ph] = z) := ⟨_, rfl⟩
          rw [HL6.out] at HOn
          have hL6 : L6.length ≤ 445 := by rw [← HL6.out, List.length_append]; simp; omega
          obtain ⟨G, HGe⟩ : ∃ z, Hid (wr.heap.size = z) := ⟨_, rfl⟩
          obtain ⟨hW2, hne2⟩ := HGn.out.whole (hW.alloc _) hne
          have HW2 : Hid (Whole wn G 35 (auCells ⟨tr, ph, told, use, inc, moved⟩ (.slice a5 m5 c5) (.slice a6 m6 c6) (.slice a7 m7 c7))) := by rw [← HGe.out]; exact hW2
          have HNE2 : Hid ((Value.slice A q C).ownBlock ≠ some G) := by rw [← HGe.out]; exact hne2
          obtain ⟨r0, r1, r2, r3, r4, r5⟩ := au_cells hW2
          simp only at r0 r1 r2 r3 r4 r5
          clear hbx hO2 hb2 hsz hW hW2 hne2 hne
          go_wp2_with fail
          refine (refnone_calls ⟨tr, ph, told, use, inc, moved⟩ ⟨a5, m5, c5, a6, m6, c6, a7, m7, c7⟩ _ HA.out.1.1 HA.out.2.1.1 HA.out.2.2.1 HBa.out).mono ?_
          rintro e w5 ⟨rfl, hb5⟩
          have HO5 := Lib.hid (own_later HOn.out hb5)
          have Hb5 := Lib.hid (Hbn.out.trans (hb5.mono Hbn.out.size))
          have HW5 := Lib.hid (HW2.out.later hb5 HW2.out.lt)
          clear hb5 hf1 hv1 hw1 q0 q1 q2 q3 q4 q5 r0 r1 r2 r3 r4 r5 e0 e1 e2 e3 e4 e5 e6 e7 e8 e9 e10 e11
          rw [HGe.out]
          cases hnone : noneA ⟨tr, ph, told, use, inc, moved⟩ with
          | true =>
            have hau : (⟨tr, ph, told, use, inc, moved⟩ : Au) = au0 := of_decide_eq_true hnone
            have HFin : Hid (L6 = restN ⟨clk, rows, line, outs, asks, notes, ⟨tr, ph, told, use, inc, moved⟩⟩) := by
             show L6 = _
             rw [rest_none _ hau, ← HL6.out, ← HL5.out, ← HL4.out, ← HL3.out, ← HL2.out, ← HL1.out, Hm2.out, Hm3.out]
            have HauH := Lib.hid hau
            clear hau hnone
            have HO9 := HO5
            have Hb9 := Hb5
            obtain ⟨A9, C9, hv9, hN9⟩ := OwnN.nums HO9.out (by omega)
            obtain ⟨rfl, hq9, rfl⟩ : A = A9 ∧ q = L6.length ∧ C = C9 := by simpa using hv9
            have HN9 := Lib.hid hN9
            subst hq9
            clear hv9 hN9
            go_wp2_with fail
            refine (refnumbers_more w _ vb (clk :: flatR rows) L6 A L6.length C rfl (by rw [HFin.out]; exact rest_pos _) (painted_later HP2.out Hb9.out) HN9.out (by
             have h1 := Hroom.out; rw [Hall.out] at h1; simp only [List.length_cons, List.length_append] at h1 ⊢; rw [HFin.out]; omega)).mono ?_
            rintro e w9 ⟨v9, rfl, hp9, _⟩
            have HP9 := Lib.hid hp9
            clear hp9
            go_wp2_with fail
            go_ret
            refine ⟨v9, by rfl, HP9.out.2, ?_⟩
            have h := HP9.out.1
            rw [HFin.out] at h
            rw [← Hres.out, Hbytes.out]
            exact h
          | false =>
            have hau : (⟨tr, ph, told, use, inc, moved⟩ : Au) ≠ au0 := of_decide_eq_false hnone
            have HauN := Lib.hid hau
            clear hau hnone
            go_wp2_with fail
            go_loopw [4, 10] (fun v4 v10 wr => ∃ (k : Nat) (lv : Value), k ≤ m5 ∧ v10 = .int .i64 (k : Int) ∧ v4 = lv ∧ Hid (Below w2.heap.size w2 wr) ∧ Hid (OwnN wr w2.heap.size lv (L6 ++ tripK ⟨tr, ph, told, use, inc, moved⟩ k)) ∧ Hid (Whole wr G 35 (auCells ⟨tr, ph, told, use, inc, moved⟩ (.slice a5 m5 c5) (.slice a6 m6 c6) (.slice a7 m7 c7))) ∧ Hid (lv.ownBlock ≠ some G)) (fun _ v10 _ => m5 - (intOf v10).toNat)
            case atStart => exact ⟨0, _, Nat.zero_le _, rfl, rfl, Hb5, ownN_of HO5.out (by simp [tripK]), HW5, HNE2⟩
            case round =>
             clear HOn Hbn HGn Hq HXr Hbr HO5 Hb5 HW5 HNE2 HW2
             obtain ⟨k, lv, hk, rfl, hlv, Hbr, HO, HWr, HNE⟩ := hrel
             have hlv' := hlv.symm
             subst hlv'
             clear hlv
             obtain ⟨r0, r1, r2, r3, r4, r5⟩ := au_cells HWr.out
             simp only at r0 r1 r2 r3 r4 r5
             by_cases hlt : k < m5
             · obtain ⟨bb, off, rfl, g0⟩ := (HA.out.1.2.later (held_next HP2.out.2 Hbr.out)).at (i := k) (by have : m5 = told.length := HA.out.1.1; show k < told.length; omega)
               obtain ⟨tb, Htb⟩ : ∃ z, Hid (told[k]?.getD false = z) := ⟨_, rfl⟩
               simp only at g0
               rw [Htb.out] at g0
               obtain ⟨ob, Hob⟩ : ∃ z, Hid (oneI tb = z) := ⟨_, rfl⟩
               obtain ⟨uu, Huu⟩ : ∃ z, Hid (use[k]?.getD 0 = z) := ⟨_, rfl⟩
               obtain ⟨ii, Hii⟩ : ∃ z, Hid (inc[k]?.getD 0 = z) := ⟨_, rfl⟩
               have k0 : (0 : Int) ≤ (k : Int) := by omega
               have k1 : (k : Int) < (m5 : Int) := by omega
               have hne := HNE.out
               obtain ⟨A, C, wn, hrun, h2, _, h4, h5⟩ := push_nums (wb := (wr.alloc (.cells #[.int .i64 ob, .int .i64 uu, .int .i64 ii] 2))) (k := [ob, uu, ii]) HO.out (below_box _ _) (Whole.made _ _ _) (by simp) (by rw [List.length_append, tripK_len]; omega) Hbr.out.size
               obtain ⟨hf1, hv1, hw1⟩ := fine_of hrun
               simp only [show ([ob, uu, ii] : List Int).length = 3 from rfl] at hf1 hv1 hw1
               obtain ⟨q, Hq⟩ : ∃ z, Hid (((L6 ++ tripK ⟨tr, ph, told, use, inc, moved⟩ k) ++ [ob, uu, ii]).length = z) := ⟨_, rfl⟩
               rw [Hq.out] at hv1 h2 h5
               have HOn := Lib.hid h2
               have Hbn := Lib.hid (Hbr.out.trans h4)
               have HGn := Lib.hid h5
               clear hrun h2 h4 h5
               obtain ⟨hW2, hne2⟩ := HGn.out.whole (HWr.out.alloc _) hne
               have HWn := Lib.hid hW2
               have HNEn := Lib.hid hne2
               clear hW2 hne2 hne
               have HT : Hid ((L6 ++ tripK ⟨tr, ph, told, use, inc, moved⟩ k) ++ [ob, uu, ii] = L6 ++ tripK ⟨tr, ph, told, use, inc, moved⟩ (k + 1)) := by
                show _ = _
                rw [tripK_succ, List.append_assoc]
                show _ = L6 ++ (tripK ⟨tr, ph, told, use, inc, moved⟩ k ++ [oneI (told[k]?.getD false), use[k]?.getD 0, inc[k]?.getD 0])
                rw [Htb.out, Hob.out, Huu.out, Hii.out]
               by_cases hu : k < m6
               · obtain ⟨bu, ofu, rfl, _, gu⟩ := (HA.out.2.1.2.later (held_next HP2.out.2 Hbr.out)).at (i := k) (by have : m6 = use.length := HA.out.2.1.1; show k < use.length; omega)
                 simp only at gu
                 rw [Huu.out] at gu
                 have ku : (k : Int) < (m6 : Int) := by omega
                 by_cases hi : k < m7
                 · obtain ⟨bi, ofi, rfl, _, gi⟩ := (HA.out.2.2.2.later (held_next HP2.out.2 Hbr.out)).at (i := k) (by have : m7 = inc.length := HA.out.2.2.1; show k < inc.length; omega)
                   simp only at gi
                   rw [Hii.out] at gi
                   have ki : (k : Int) < (m7 : Int) := by omega
                   go_wp2_with fail
                   refine (refkone_calls tb _).mono ?_
                   rintro e w6 ⟨rfl, rfl⟩
                   rw [Hob.out]
                   go_wp2_with fail
                   go_roundw
                   case rel => exact ⟨k + 1, _, by omega, by go_num, rfl, Hbn, ownN_of HOn.out HT.out, HWn, HNEn⟩
                   case measure => simp [intOf]; omega
                 · obtain rfl : ii = 0 := by rw [← Hii.out, List.getElem?_eq_none (by have : m7 = inc.length := HA.out.2.2.1; omega)]; rfl
                   have ki : ¬ (k : Int) < (m7 : Int) := by omega
                   go_wp2_with fail
                   refine (refkone_calls tb _).mono ?_
                   rintro e w6 ⟨rfl, rfl⟩
                   rw [Hob.out]
                   go_wp2_with fail
                   go_roundw
                   case rel => exact ⟨k + 1, _, by omega, by go_num, rfl, Hbn, ownN_of HOn.out HT.out, HWn, HNEn⟩
                   case measure => simp [intOf]; omega
               · obtain rfl : uu = 0 := by rw [← Huu.out, List.getElem?_eq_none (by have : m6 = use.length := HA.out.2.1.1; omega)]; rfl
                 have ku : ¬ (k : Int) < (m6 : Int) := by omega
                 by_cases hi : k < m7
                 · obtain ⟨bi, ofi, rfl, _, gi⟩ := (HA.out.2.2.2.later (held_next HP2.out.2 Hbr.out)).at (i := k) (by have : m7 = inc.length := HA.out.2.2.1; show k < inc.length; omega)
                   simp only at gi
                   rw [Hii.out] at gi
                   have ki : (k : Int) < (m7 : Int) := by omega
                   go_wp2_with fail
                   refine (refkone_calls tb _).mono ?_
                   rintro e w6 ⟨rfl, rfl⟩
                   rw [Hob.out]
                   go_wp2_with fail
                   go_roundw
                   case rel => exact ⟨k + 1, _, by omega, by go_num, rfl, Hbn, ownN_of HOn.out HT.out, HWn, HNEn⟩
                   case measure => simp [intOf]; omega
                 · obtain rfl : ii = 0 := by rw [← Hii.out, List.getElem?_eq_none (by have : m7 = inc.length := HA.out.2.2.1; omega)]; rfl
                   have ki : ¬ (k : Int) < (m7 : Int) := by omega
                   go_wp2_with fail
                   refine (refkone_calls tb _).mono ?_
                   rintro e w6 ⟨rfl, rfl⟩
                   rw [Hob.out]
                   go_wp2_with fail
                   go_roundw
                   case rel => exact ⟨k + 1, _, by omega, by go_num, rfl, Hbn, ownN_of HOn.out HT.out, HWn, HNEn⟩
                   case measure => simp [intOf]; omega
             · obtain rfl : m5 = k := by omega
               obtain ⟨L7, HL7⟩ : ∃ z, Hid (L6 ++ tripK ⟨tr, ph, told, use, inc, moved⟩ m5 = z) := ⟨_, rfl⟩
               rw [HL7.out] at HO
               have hL7 : L7.length ≤ 565 := by rw [← HL7.out, List.length_append, tripK_len]; omega
               obtain ⟨om, Hom⟩ : ∃ z, Hid (oneI moved = z) := ⟨_, rfl⟩
               obtain ⟨A, C, wn, hrun, h2, _, h4, h5⟩ := push_nums (wb := (wr.alloc (.cells #[.int .i64 om] 2))) (k := [om]) HO.out (below_box _ _) (Whole.made _ _ _) (by simp) (by omega) Hbr.out.size
               obtain ⟨hf1, hv1, hw1⟩ := fine_of hrun
               simp only [show ([om] : List Int).length = 1 from rfl] at hf1 hv1 hw1
               obtain ⟨q, Hq⟩ : ∃ z, Hid ((L7 ++ [om]).length = z) := ⟨_, rfl⟩
               rw [Hq.out] at hv1 h2 h5
               have HOn := Lib.hid h2
               have Hbn := Lib.hid (Hbr.out.trans h4)
               have HGn := Lib.hid h5
               clear hrun h2 h4 h5
               obtain ⟨L8, HL8⟩ : ∃ z, Hid (L7 ++ [om] = z) := ⟨_, rfl⟩
               rw [HL8.out] at HOn
               have hL8 : L8.length ≤ 566 := by rw [← HL8.out, List.length_append, List.length_singleton]; omega
               have HFin : Hid (L8 = restN ⟨clk, rows, line, outs, asks, notes, ⟨tr, ph, told, use, inc, moved⟩⟩) := by
                show L8 = _
                rw [rest_some _ HauN.out]
                show L8 = (_ ++ tripK ⟨tr, ph, told, use, inc, moved⟩ told.length) ++ [oneI moved]
                rw [show told.length = m5 from HA.out.1.1.symm, Hom.out, ← HL8.out, ← HL7.out, ← HL6.out, ← HL5.out, ← HL4.out, ← HL3.out, ← HL2.out, ← HL1.out, Hm2.out, Hm3.out]
               go_wp2_with fail
               refine (refkone_calls moved _).mono ?_
               rintro e w6 ⟨rfl, rfl⟩
               rw [Hom.out]
               have HO9 := HOn
               have Hb9 := Hbn
               obtain ⟨A9, C9, hv9, hN9⟩ := OwnN.nums HO9.out (by omega)
               obtain ⟨rfl, hq9, rfl⟩ : A = A9 ∧ q = L8.length ∧ C = C9 := by simpa using hv9
               have HN9 := Lib.hid hN9
               subst hq9
               clear hv9 hN9
               go_wp2_with fail
               refine (refnumbers_more w _ vb (clk :: flatR rows) L8 A L8.length C rfl (by rw [HFin.out]; exact rest_pos _) (painted_later HP2.out Hb9.out) HN9.out (by
                have h1 := Hroom.out; rw [Hall.out] at h1; simp only [List.length_cons, List.length_append] at h1 ⊢; rw [HFin.out]; omega)).mono ?_
               rintro e w9 ⟨v9, rfl, hp9, _⟩
               have HP9 := Lib.hid hp9
               clear hp9
               go_wp2_with fail
               go_ret
               refine ⟨v9, by rfl, HP9.out.2, ?_⟩
               have h := HP9.out.1
               rw [HFin.out] at h
               rw [← Hres.out, Hbytes.out]
               exact h
end Go.Proofs.YtnkgakhnlbifdaaGreat
