/- Parts, as far as BookTakesCards reaches them, of: BookTakeK, BookNums, BookNote, BookPutMath. No law is proved here. -/
import Derived.Test.YtnkgakhnlbifdaaGreatTb22
import Derived.Test.YtnkgakhnlbifdaaGreatTb29
import Derived.Test.YtnkgakhnlbifdaaGreatTb33
import Derived.Defers
import Derived.Recover
import Derived.Test.YtnkgakhnlbifdaaGreatTb26
import Derived.Test.YtnkgakhnlbifdaaGreatTb1
import Derived.Test.YtnkgakhnlbifdaaGreatTb21
import Derived.Test.YtnkgakhnlbifdaaGreatTb2
import Derived.Test.YtnkgakhnlbifdaaGreatTb0
import Derived.LoopTactic
import Derived.BigRegion
import Derived.Test.YtnkgakhnlbifdaaGreatTb6
import Derived.Laws.EntriesVeiled
import Derived.Test.YtnkgakhnlbifdaaGreatTbQ
namespace Go.Proofs.YtnkgakhnlbifdaaGreat
open Go.RowKit
theorem takeK_any {c : Cf} {who : Int} {zs : List Int} : takeK c who zs = if goR c c.n.toNat zs = ([], false) ∧ bookB c who (goK c who c.n.toNat zs) = true then some (goK c who c.n.toNat zs) else none := by
 by_cases h : 0 ≤ c.n
 · exact takeK_go (by omega)
 · have hno : ¬ cfOk c := fun hc => h (by have := hc.1; omega)
   rw [if_neg (fun h2 => hno (of_decide_eq_true h2.2).1.1)]
   exact takeK_no fun x hx => hno hx.1.1.1
theorem bk_held0 (B : Nat) (w : World) : BkHeld B w bl0 bk0 := fun W _ _ => bk_in0 W
abbrev nil7 (x : Bk) : Array Value := bkCells x (.slice none 0 0) (.slice none 0 0) (.slice none 0 0) (.slice none 0 0) (.slice none 0 0) (.slice none 0 0) (.slice none 0 0)
theorem bk12_heap {W : World} {go q : Nat} {x : Bk} {rv lv ov nv tv uv iv : Value} (hq : q ≠ go) : (bk12 W go x rv lv ov nv tv uv iv).heap[q]? = W.heap[q]? := by
 unfold bk12
 exact ((Below.heap_setCell _ ⟨go, 11, none⟩ _ q hq).trans ((Below.heap_setCell _ ⟨go, 10, none⟩ _ q hq).trans ((Below.heap_setCell _ ⟨go, 9, none⟩ _ q hq).trans ((Below.heap_setCell _ ⟨go, 8, none⟩ _ q hq).trans ((Below.heap_setCell _ ⟨go, 7, none⟩ _ q hq).trans ((Below.heap_setCell _ ⟨go, 6, none⟩ _ q hq).trans ((Below.heap_setCell _ ⟨go, 5, none⟩ _ q hq).trans ((Below.heap_setCell _ ⟨go, 4, none⟩ _ q hq).trans ((Below.heap_setCell _ ⟨go, 3, none⟩ _ q hq).trans ((Below.heap_setCell _ ⟨go, 2, none⟩ _ q hq).trans ((Below.heap_setCell _ ⟨go, 1, none⟩ _ q hq).trans ((Below.heap_setCell _ ⟨go, 0, none⟩ _ q hq).trans rfl))))))))))))
theorem end_world {W w : World} {go gk : Nat} {x y : Bk} {rv lv ov nv tv uv iv rv' lv' ov' nv' tv' uv' iv' : Value} {b b' : Bool} (hO : Whole W go 37 (bkCells y rv' lv' ov' nv' tv' uv' iv')) (hF : Whole W gk 4 #[.bool b']) (hne : go ≠ gk) (hb : Below w.heap.size w W) (h1 : w.heap.size ≤ go) (h2 : w.heap.size ≤ gk) (WF : World) (hW : WF = (bk12 W go x rv lv ov nv tv uv iv).setCell ⟨gk, 0, none⟩ (.bool b)) :
 Whole WF go 37 (bkCells x rv lv ov nv tv uv iv) ∧ Whole WF gk 4 #[.bool b] ∧ Below w.heap.size w WF ∧ W.heap.size ≤ WF.heap.size ∧ ∀ q, q ≠ go → q ≠ gk → WF.heap[q]? = W.heap[q]? := by
 subst hW
 have ho : ∀ {t : TypeId} {cs : Array Value} {q : World} (i : Nat) (u : Value), Whole q gk t cs → Whole (q.setCell ⟨go, i, none⟩ u) gk t cs := fun i u h => h.other (p := ⟨go, i, none⟩) (fun e => hne e.symm) u
 have h3 : Whole (bk12 W go x rv lv ov nv tv uv iv) gk 4 #[.bool b'] := by
  unfold bk12
  exact (ho 11 _ (ho 10 _ (ho 9 _ (ho 8 _ (ho 7 _ (ho 6 _ (ho 5 _ (ho 4 _ (ho 3 _ (ho 2 _ (ho 1 _ (ho 0 _ hF))))))))))))
 refine ⟨(bk12_whole hO).other (p := ⟨gk, 0, none⟩) hne _, h3.set 0 _, (bk12_below hb h1).setCell (p := ⟨gk, 0, none⟩) h2 _, ?_, fun q q1 q2 => (Below.heap_setCell _ ⟨gk, 0, none⟩ _ q q2).trans (bk12_heap q1)⟩
 have := ((bk12_below (Below.refl 0 W) (Nat.zero_le go) (x := x) (rv := rv) (lv := lv) (ov := ov) (nv := nv) (tv := tv) (uv := uv) (iv := iv)).setCell (p := ⟨gk, 0, none⟩) (Nat.zero_le _) (.bool b)).size
 exact this
set_option maxRecDepth 100000 in
set_option maxHeartbeats 16000000 in
theorem kTake_calls (c : Cf) (who : Int) (a : Option Addr) (n d : Nat) (zs : List Int) (w : World) (hB : Bytes w (.slice a n d) zs) (hn : n = zs.length) (hnd : n ≤ d) (hlen : zs.length ≤ 1000000000000) :
 Calls Tryz.prog 7 #[cfV c, .int .i64 who, .slice a n d] w (TookKH w (takeK c who zs)) := by
 rw [takeK_any]
 obtain ⟨K, HK⟩ : ∃ x, Hid (goK c who c.n.toNat zs = x) := ⟨_, rfl⟩
 obtain ⟨s9, HS⟩ : ∃ x, Hid (goR c c.n.toNat zs = x) := ⟨_, rfl⟩
 rw [HK.out, HS.out]
 obtain ⟨res, Hres⟩ : ∃ x, Hid (x = if s9 = ([], false) ∧ bookB c who K = true then some K else none) := ⟨_, rfl⟩
 rw [← Hres.out]
 obtain ⟨V1, HV1⟩ : ∃ x, Hid (x = w.alloc (.cells (cfCells c) 23)) := ⟨_, rfl⟩
 obtain ⟨V2, HV2⟩ : ∃ x, Hid (x = V1.alloc (.cells (nil7 bk0) 37)) := ⟨_, rfl⟩
 obtain ⟨V3, HV3⟩ : ∃ x, Hid (x = V2.alloc (.cells #[.bool false] 4)) := ⟨_, rfl⟩
 obtain ⟨WS, HWS⟩ : ∃ x, Hid (x = V3.alloc (.cells #[.slice a n d] 56)) := ⟨_, rfl⟩
 have z1 : V1.heap.size = w.heap.size + 1 := by rw [HV1.out]; simp
 have z2 : V2.heap.size = w.heap.size + 1 + 1 := by rw [HV2.out]; simp; exact z1
 have z3 : V3.heap.size = w.heap.size + 1 + 1 + 1 := by rw [HV3.out]; simp; exact z2
 have w1 : Whole V1 w.heap.size 23 (cfCells c) := by rw [HV1.out]; exact Whole.made _ _ _
 have w2 : Whole V2 (w.heap.size + 1) 37 (nil7 bk0) := by rw [HV2.out, ← z1]; exact Whole.made _ _ _
 have w3 : Whole V3 (w.heap.size + 1 + 1) 4 #[.bool false] := by rw [HV3.out, ← z2]; exact Whole.made _ _ _
 have w4 : Whole WS (w.heap.size + 1 + 1 + 1) 56 #[.slice a n d] := by rw [HWS.out, ← z3]; exact Whole.made _ _ _
 have b1 : Below w.heap.size w V1 := by rw [HV1.out]; exact below_box _ _
 have b2 : Below V1.heap.size V1 V2 := by rw [HV2.out]; exact below_box _ _
 have b3 : Below V2.heap.size V2 V3 := by rw [HV3.out]; exact below_box _ _
 have b4 : Below V3.heap.size V3 WS := by rw [HWS.out]; exact below_box _ _
 have bW := held_next (held_next (held_next b1 b2) b3) b4
 have HC : Hid (Whole WS w.heap.size 23 (cfCells c)) := w1.later (held_next (held_next b2 b3) b4) w1.lt
 have HO : Hid (Whole WS (w.heap.size + 1) 37 (nil7 bk0)) := w2.later (held_next b3 b4) w2.lt
 have HF : Hid (Whole WS (w.heap.size + 1 + 1) 4 #[.bool false]) := w3.later b4 w3.lt
 have HBl : Hid (Below w.heap.size w WS) := bW
 have hSz : Hid (w.heap.size + 1 + 1 < WS.heap.size) := HF.out.lt
 have hR : Rd w (w.heap.size + 1 + 1 + 1) zs WS := ⟨_, w4, a, n, d, rfl, hn, hnd, fun W hW => hB.later hW⟩
 have hcall := kbook_calls w (w.heap.size + 1 + 1 + 1) c who zs WS hR bW (by omega) hlen
 unfold ReadsK at hcall
 rw [HK.out, HS.out] at hcall
 have HCall := Lib.hid hcall
 clear hcall hR z1 z2 z3 w1 w2 w3 w4 b1 b2 b3 b4 bW hB hn hnd hlen
 obtain ⟨nn, q, r, p, kk, cc⟩ := c
 obtain ⟨d0, d1, d2, d3, d4, d5⟩ := config_cells HC.out
 simp only at d0 d1 d2 d3 d4 d5
 have hmf : ∀ (fn : Fn) (first cap : Array Value) (w : World), (Instr.makeFunc fn first cap).run Tryz.prog w = .ok (.func fn first cap) w := fun _ _ _ _ => rfl
 go_enter_defers Tryz.func7, Tryz.ntmps7
 go_wp2_with fail
 show Calls _ _ _ ((((w.alloc (.cells (cfCells ⟨nn, q, r, p, kk, cc⟩) 23)).alloc (.cells (nil7 bk0) 37)).alloc (.cells #[.bool false] 4)).alloc (.cells #[.slice a n d] 56)) _
 rw [← HV1.out, ← HV2.out, ← HV3.out, ← HWS.out]
 refine HCall.out.mono ?_
 clear HV1 HV2 HV3 HWS V1 V2 V3 d0 d1 d2 d3 d4 d5
 rintro e w5 ⟨hG, ⟨hs, ⟨pl, rfl, hH⟩, hRd⟩ | ⟨hs, rfl⟩⟩
 rotate_left 1
 · have HO5 := HO.out.butG hG (by omega)
   have HF5 := HF.out.butG hG (by omega)
   have hbl := hG.from HBl.out (by omega)
   obtain rfl : res = none := Hres.out.trans (if_neg fun h => by rw [h.1] at hs; cases hs)
   refine leaves_cons (f := 19) (args := #[.pointer (some ⟨w.heap.size + 1, 0, none⟩), .pointer (some ⟨w.heap.size + 1 + 1, 0, none⟩)]) (by simp) (by simp [go_sem]) ?_
   refine (kcatch_wrong (w.heap.size + 1) (w.heap.size + 1 + 1) bk0 (.slice none 0 0) (.slice none 0 0) (.slice none 0 0) (.slice none 0 0) (.slice none 0 0) (.slice none 0 0) (.slice none 0 0) false w5 HO5 HF5 (by omega)).mono ?_
   rintro e u' w6 ⟨rfl, rfl, h1, h2, h3⟩
   obtain ⟨⟨q0, q1, q2, q3⟩, ⟨q4, q5, q6, q7⟩, q8, q9, q10, q11⟩ := bk_cells h1
   have k0 := h2.cell 0
   have hbl6 := h3 _ _ hbl (by omega) (by omega)
   have hQ : Hid (TookKH w none (.returned (.tuple #[bkAt bk0 bl0, .bool false])) w6) := ⟨bl0, rfl, bk_held0 _ _, hbl6⟩
   clear h1 h2 h3 hbl hbl6 HO5 HF5 hG hs
   simp [Leaves, settle, results, Tryz.results7, go_sem, q0, q1, q2, q3, q4, q5, q6, q7, q8, q9, q10, q11, k0]
   exact hQ.out
 obtain ⟨v9, hr9, A9, n9, C9, rfl, hn9, hC9, hG9⟩ := hRd
 have HR9 := Lib.hid hr9
 have HO5 := Lib.hid (HO.out.butG hG (by omega))
 have HF5 := Lib.hid (HF.out.butG hG (by omega))
 have HC5 := Lib.hid (HC.out.butG hG (by omega))
 have HB5 := Lib.hid (hG.from HBl.out (by omega))
 have HH := Lib.hid hH
 have hsz5 : w.heap.size + 1 + 1 + 1 < w5.heap.size := hr9.lt
 have hb6 := below_box w5 (.cells (bkAtC K pl) 37)
 have HX6 := Lib.hid (Whole.made w5 37 (bkAtC K pl))
 have HR6 := Lib.hid (hr9.later hb6 hr9.lt)
 have HO6 := Lib.hid (HO5.out.later hb6 HO5.out.lt)
 have HF6 := Lib.hid (HF5.out.later hb6 HF5.out.lt)
 have HC6 := Lib.hid (HC5.out.later hb6 HC5.out.lt)
 have HB6 := Lib.hid (held_next HB5.out hb6)
 have HIn6 : Hid (BkIn (w5.alloc (.cells (bkAtC K pl) 37)) pl K) := (hH.inn).later hb6
 have hr0 := HR6.out.cell 0
 clear hr9 hG hH hC9 hG9 hb6 HO HF HC HBl HCall
 by_cases h0 : n9 = 0
 rotate_left 1
 · obtain rfl : res = none := Hres.out.trans (if_neg fun h => h0 (by rw [hn9, h.1]; rfl))
   have h9 : (0 : Int) < (n9 : Int) := by omega
   have Hn9 := Lib.hid hn9; clear hn9
   obtain ⟨⟨y0, y1, y2, y3⟩, ⟨y4, y5, y6, y7⟩, y8, y9, y10, y11⟩ := bk_cells HO6.out
   have fz0 := HO6.out.free 0
   have fz1 := HO6.out.free 1
   have fz2 := HO6.out.free 2
   have fz3 := HO6.out.free 3
   have fz4 := HO6.out.free 4
   have fz5 := HO6.out.free 5
   have fz6 := HO6.out.free 6
   have fz7 := HO6.out.free 7
   have fz8 := HO6.out.free 8
   have fz9 := HO6.out.free 9
   have fz10 := HO6.out.free 10
   have fz11 := HO6.out.free 11
   have k0 := HF6.out.cell 0
   have fk := HF6.out.free 0
   go_wp2_with fail
   clear y0 y1 y2 y3 y4 y5 y6 y7 y8 y9 y10 y11 k0 fk fz0 fz1 fz2 fz3 fz4 fz5 fz6 fz7 fz8 fz9 fz10 fz11
   obtain ⟨WF, hWF⟩ : ∃ x, x = (bk12 (w5.alloc (.cells (bkAtC K pl) 37)) (w.heap.size + 1) bk0 (.slice none 0 0) (.slice none 0 0) (.slice none 0 0) (.slice none 0 0) (.slice none 0 0) (.slice none 0 0) (.slice none 0 0)).setCell ⟨w.heap.size + 1 + 1, 0, none⟩ (.bool false) := ⟨_, rfl⟩
   show bodyPostD _ _ _ _ _ ((bk12 (w5.alloc (.cells (bkAtC K pl) 37)) (w.heap.size + 1) bk0 (.slice none 0 0) (.slice none 0 0) (.slice none 0 0) (.slice none 0 0) (.slice none 0 0) (.slice none 0 0) (.slice none 0 0)).setCell ⟨w.heap.size + 1 + 1, 0, none⟩ (.bool false))
   obtain ⟨r1, r2, r3, r4, r5⟩ := end_world HO6.out HF6.out (by omega) HB6.out (by omega) (by omega) WF hWF
   rw [← hWF]
   obtain ⟨⟨q0, q1, q2, q3⟩, ⟨q4, q5, q6, q7⟩, q8, q9, q10, q11⟩ := bk_cells r1
   have kq := r2.cell 0
   have hQ : Hid (TookKH w none (.returned (.tuple #[bkAt bk0 bl0, .bool false])) WF) := ⟨bl0, rfl, bk_held0 _ _, r3⟩
   clear r1 r2 r3 r4 r5 hWF
   refine leaves_cons (f := 19) (args := #[.pointer (some ⟨w.heap.size + 1, 0, none⟩), .pointer (some ⟨w.heap.size + 1 + 1, 0, none⟩)]) (by simp) (by simp [go_sem]) ?_
   refine (kcatch_idle _ _ _).mono ?_
   rintro e u' w9 ⟨rfl, rfl, rfl⟩
   simp [Leaves, settle, results, Tryz.results7, go_sem, q0, q1, q2, q3, q4, q5, q6, q7, q8, q9, q10, q11, kq]
   exact hQ.out
 · subst h0
   have hz : s9 = ([], false) := by
    obtain ⟨zz, fl⟩ := s9
    simp only at hs hn9
    rw [hs, List.eq_nil_of_length_eq_zero hn9.symm]
   obtain ⟨ok, Hok⟩ : ∃ x, Hid (bookB ⟨nn, q, r, p, kk, cc⟩ who K = x) := ⟨_, rfl⟩
   have HRes : Hid (res = if ok = true then some K else none) := by
    show _ = _
    rw [Hres.out, Hok.out]
    simp [hz]
   clear hz hn9 hs Hres
   obtain ⟨d0, d1, d2, d3, d4, d5⟩ := config_cells HC6.out
   simp only at d0 d1 d2 d3 d4 d5
   obtain ⟨⟨x0, x1, x2, x3⟩, ⟨x4, x5, x6, x7⟩, x8, x9, x10, x11⟩ := bk_cells HX6.out
   go_wp2_with fail
   refine (kMay_calls ⟨nn, q, r, p, kk, cc⟩ who K pl _ HIn6.out).mono ?_
   rw [Hok.out]
   rintro e w7 ⟨rfl, hb7⟩
   have hs67 := hb7.size
   have HO7 := Lib.hid (HO6.out.later hb7 HO6.out.lt)
   have HF7 := Lib.hid (HF6.out.later hb7 HF6.out.lt)
   have HX7 := Lib.hid (HX6.out.later hb7 HX6.out.lt)
   have HB7 := Lib.hid (held_next HB6.out hb7)
   have H57 : Hid (∀ q, q < w5.heap.size → w7.heap[q]? = w5.heap[q]?) := fun q hq => (hb7.block q (by simp; omega)).trans ((below_box w5 (.cells (bkAtC K pl) 37)).block q hq)
   have h57 : w5.heap.size ≤ w7.heap.size := Nat.le_trans (below_box w5 (.cells (bkAtC K pl) 37)).size hs67
   have hlt7 : w5.heap.size < w7.heap.size := HX7.out.lt
   clear d0 d1 d2 d3 d4 d5 x0 x1 x2 x3 x4 x5 x6 x7 x8 x9 x10 x11 hr0 hb7 hs67 HX6 HO6 HF6
   obtain ⟨⟨y0, y1, y2, y3⟩, ⟨y4, y5, y6, y7⟩, y8, y9, y10, y11⟩ := bk_cells HO7.out
   obtain ⟨⟨x0, x1, x2, x3⟩, ⟨x4, x5, x6, x7⟩, x8, x9, x10, x11⟩ := bk_cells HX7.out
   have fz0 := HO7.out.free 0
   have fz1 := HO7.out.free 1
   have fz2 := HO7.out.free 2
   have fz3 := HO7.out.free 3
   have fz4 := HO7.out.free 4
   have fz5 := HO7.out.free 5
   have fz6 := HO7.out.free 6
   have fz7 := HO7.out.free 7
   have fz8 := HO7.out.free 8
   have fz9 := HO7.out.free 9
   have fz10 := HO7.out.free 10
   have fz11 := HO7.out.free 11
   have k0 := HF7.out.cell 0
   have fk := HF7.out.free 0
   cases ok with
   | false =>
     obtain rfl : res = none := HRes.out
     go_wp2_with fail
     clear y0 y1 y2 y3 y4 y5 y6 y7 y8 y9 y10 y11 x0 x1 x2 x3 x4 x5 x6 x7 x8 x9 x10 x11 k0 fk fz0 fz1 fz2 fz3 fz4 fz5 fz6 fz7 fz8 fz9 fz10 fz11
     obtain ⟨WF, hWF⟩ : ∃ x, x = (bk12 w7 (w.heap.size + 1) bk0 (.slice none 0 0) (.slice none 0 0) (.slice none 0 0) (.slice none 0 0) (.slice none 0 0) (.slice none 0 0) (.slice none 0 0)).setCell ⟨w.heap.size + 1 + 1, 0, none⟩ (.bool false) := ⟨_, rfl⟩
     show bodyPostD _ _ _ _ _ ((bk12 w7 (w.heap.size + 1) bk0 (.slice none 0 0) (.slice none 0 0) (.slice none 0 0) (.slice none 0 0) (.slice none 0 0) (.slice none 0 0) (.slice none 0 0)).setCell ⟨w.heap.size + 1 + 1, 0, none⟩ (.bool false))
     obtain ⟨r1, r2, r3, r4, r5⟩ := end_world HO7.out HF7.out (by omega) HB7.out (by omega) (by omega) WF hWF
     rw [← hWF]
     obtain ⟨⟨q0, q1, q2, q3⟩, ⟨q4, q5, q6, q7⟩, q8, q9, q10, q11⟩ := bk_cells r1
     have kq := r2.cell 0
     have hQ : Hid (TookKH w none (.returned (.tuple #[bkAt bk0 bl0, .bool false])) WF) := ⟨bl0, rfl, bk_held0 _ _, r3⟩
     clear r1 r2 r3 r4 r5 hWF
     refine leaves_cons (f := 19) (args := #[.pointer (some ⟨w.heap.size + 1, 0, none⟩), .pointer (some ⟨w.heap.size + 1 + 1, 0, none⟩)]) (by simp) (by simp [go_sem]) ?_
     refine (kcatch_idle _ _ _).mono ?_
     rintro e u' w9 ⟨rfl, rfl, rfl⟩
     simp [Leaves, settle, results, Tryz.results7, go_sem, q0, q1, q2, q3, q4, q5, q6, q7, q8, q9, q10, q11, kq]
     exact hQ.out
   | true =>
     obtain rfl : res = some K := HRes.out
     go_wp2_with fail
     clear y0 y1 y2 y3 y4 y5 y6 y7 y8 y9 y10 y11 x0 x1 x2 x3 x4 x5 x6 x7 x8 x9 x10 x11 k0 fk fz0 fz1 fz2 fz3 fz4 fz5 fz6 fz7 fz8 fz9 fz10 fz11
     obtain ⟨WF, hWF⟩ : ∃ x, x = (bk12 w7 (w.heap.size + 1) K (.slice pl.a1 pl.m1 pl.c1) (.slice pl.a2 pl.m2 pl.c2) (.slice pl.a3 pl.m3 pl.c3) (.slice pl.a4 pl.m4 pl.c4) (.slice pl.al.a1 pl.al.m1 pl.al.c1) (.slice pl.al.a2 pl.al.m2 pl.al.c2) (.slice pl.al.a3 pl.al.m3 pl.al.c3)).setCell ⟨w.heap.size + 1 + 1, 0, none⟩ (.bool true) := ⟨_, rfl⟩
     show bodyPostD _ _ _ _ _ ((bk12 w7 (w.heap.size + 1) K (.slice pl.a1 pl.m1 pl.c1) (.slice pl.a2 pl.m2 pl.c2) (.slice pl.a3 pl.m3 pl.c3) (.slice pl.a4 pl.m4 pl.c4) (.slice pl.al.a1 pl.al.m1 pl.al.c1) (.slice pl.al.a2 pl.al.m2 pl.al.c2) (.slice pl.al.a3 pl.al.m3 pl.al.c3)).setCell ⟨w.heap.size + 1 + 1, 0, none⟩ (.bool true))
     obtain ⟨r1, r2, r3, r4, r5⟩ := end_world HO7.out HF7.out (by omega) HB7.out (by omega) (by omega) WF hWF
     rw [← hWF]
     obtain ⟨⟨q0, q1, q2, q3⟩, ⟨q4, q5, q6, q7⟩, q8, q9, q10, q11⟩ := bk_cells r1
     have kq := r2.cell 0
     have hQ : Hid (TookKH w (some K) (.returned (.tuple #[bkAt K pl, .bool true])) WF) := ⟨pl, rfl, fun W hs hW => HH.out W (by omega) (fun g g1 g2 => by
      have hw0 : w.heap.size + 1 + 1 < WS.heap.size := hSz.out
      rw [hW g (by omega) (by omega), r5 g (by omega) (by omega), H57.out g g2]), r3⟩
     clear r1 r2 r3 r4 r5 hWF
     refine leaves_cons (f := 19) (args := #[.pointer (some ⟨w.heap.size + 1, 0, none⟩), .pointer (some ⟨w.heap.size + 1 + 1, 0, none⟩)]) (by simp) (by simp [go_sem]) ?_
     refine (kcatch_idle _ _ _).mono ?_
     rintro e u' w9 ⟨rfl, rfl, rfl⟩
     simp [Leaves, settle, results, Tryz.results7, go_sem, q0, q1, q2, q3, q4, q5, q6, q7, q8, q9, q10, q11, kq]
     exact hQ.out
end Go.Proofs.YtnkgakhnlbifdaaGreat
namespace Go.Proofs.YtnkgakhnlbifdaaGreat
open Go.RowKit
theorem own_ne {w : World} {base : Nat} {v : Value} {zs : List Int} (h : OwnB base w v zs) {g : Nat} {t : TypeId} {cs : Array Value} (hw : Whole w g t cs) (ht : t ≠ 5) : v.ownBlock ≠ some g := by
 intro hv
 rcases h.1.2 with ⟨rfl, _⟩ | ⟨g', cap, cur, rfl, _, hg, _⟩
 · simp [Value.ownBlock] at hv
 · obtain rfl : g' = g := by simpa [Value.ownBlock] using hv
   unfold Whole at hw
   rw [hg] at hw
   simp at hw
   exact ht hw.2.symm
def PutBx (w0 : World) (cs : Array Value) (w : World) : Prop :=
 Whole w w0.heap.size 37 cs ∧ Whole w (w0.heap.size + 2) 80 #[.func (.func 31) #[] #[.pointer (some ⟨w0.heap.size + 1, 0, none⟩)]] ∧ Whole w (w0.heap.size + 3) 81 #[.func (.func 33) #[] #[.pointer (some ⟨w0.heap.size + 2, 0, none⟩)]]
theorem PutBx.later {w0 w w' : World} {cs : Array Value} (h : PutBx w0 cs w) (hb : Below w.heap.size w w') : PutBx w0 cs w' := ⟨h.1.later hb h.1.lt, h.2.1.later hb h.2.1.lt, h.2.2.later hb h.2.2.lt⟩
theorem PutBx.low {w0 w w' : World} {cs : Array Value} (h : PutBx w0 cs w) (hb : Below (w0.heap.size + 4) w w') : PutBx w0 cs w' := ⟨h.1.later hb (by omega), h.2.1.later hb (by omega), h.2.2.later hb (by omega)⟩
theorem PutBx.set {w0 w : World} {cs : Array Value} (h : PutBx w0 cs w) (u : Value) : PutBx w0 cs (w.setCell ⟨w0.heap.size + 1, 0, none⟩ u) :=
 ⟨h.1.other (by show _ ≠ w0.heap.size + 1; omega) _, h.2.1.other (by show _ ≠ w0.heap.size + 1; omega) _, h.2.2.other (by show _ ≠ w0.heap.size + 1; omega) _⟩
def PutSt (w0 : World) (cs : Array Value) (w : World) (zs : List Int) : Prop :=
 Below w0.heap.size w0 w ∧ PutBx w0 cs w ∧ ∃ v, Whole w (w0.heap.size + 1) 24 #[v] ∧ OwnB (w0.heap.size + 4) w v zs
theorem PutSt.later {w0 w w' : World} {cs : Array Value} {zs : List Int} (h : PutSt w0 cs w zs) (hb : Below w.heap.size w w') : PutSt w0 cs w' zs := by
 obtain ⟨h1, h2, v, h4, h5⟩ := h
 exact ⟨held_next h1 hb, h2.later hb, v, h4.later hb h4.lt, h5.later hb⟩
theorem ownB_low {w : World} {base : Nat} {v : Value} {zs : List Int} (h : OwnB base w v zs) {p : Addr} (hp : p.block < base) (u : Value) : OwnB base (w.setCell p u) v zs :=
 ⟨h.1.kept (grownBy_set w p u) (.inr fun e => by have := (h.1.lt _ e).1; omega), h.2⟩
theorem PutSt.step {w0 w w' : World} {cs : Array Value} {v v' : Value} {zs : List Int} (h1 : Below w0.heap.size w0 w) (h2 : PutBx w0 cs w)
 (h4 : Whole w (w0.heap.size + 1) 24 #[v]) (h5 : OwnB (w0.heap.size + 4) w' v' zs) (hb : Below (w0.heap.size + 4) w w') : PutSt w0 cs (w'.setCell ⟨w0.heap.size + 1, 0, none⟩ v') zs := by
 refine ⟨(h1.trans (hb.mono (by omega))).setCell (p := ⟨w0.heap.size + 1, 0, none⟩) (by show _ ≤ w0.heap.size + 1; omega) _, (h2.low hb).set _, v', (h4.later hb (by omega)).set 0 v', ownB_low h5 (by show w0.heap.size + 1 < _; omega) _⟩
def PutK (w0 : World) (cs : Array Value) (h : Nat) (ns : List Int) (g2 : Nat) (t2 : TypeId) (cs2 : Array Value) (w : World) : Prop := PutBx w0 cs w ∧ Whole w h 2 (ns.map (Value.int .i64)).toArray ∧ Whole w g2 t2 cs2
section
variable {w0 w w' : World} {cs : Array Value} {h : Nat} {ns : List Int} {g2 : Nat} {t2 : TypeId} {cs2 : Array Value}
theorem PutK.later (k : PutK w0 cs h ns g2 t2 cs2 w) (hb : Below w.heap.size w w') : PutK w0 cs h ns g2 t2 cs2 w' := ⟨k.1.later hb, k.2.1.later hb k.2.1.lt, k.2.2.later hb k.2.2.lt⟩
theorem PutK.grown {zs : List Int} {v v' : Value} (k : PutK w0 cs h ns g2 t2 cs2 w) (hO : OwnB (w0.heap.size + 4) w v zs) (hb : Below (w0.heap.size + 4) w w') (hG : Grew w w' v v') (ht : t2 ≠ 5) : PutK w0 cs h ns g2 t2 cs2 w' :=
 ⟨k.1.low hb, (hG.whole k.2.1 (own_ne hO k.2.1 (by decide))).1, (hG.whole k.2.2 (own_ne hO k.2.2 ht)).1⟩
theorem PutK.set (k : PutK w0 cs h ns g2 t2 cs2 w) (hh : w0.heap.size + 4 ≤ h) (hg : g2 ≠ w0.heap.size + 1) (u : Value) : PutK w0 cs h ns g2 t2 cs2 (w.setCell ⟨w0.heap.size + 1, 0, none⟩ u) :=
 ⟨k.1.set u, k.2.1.other (by show _ ≠ w0.heap.size + 1; omega) _, k.2.2.other (p := ⟨w0.heap.size + 1, 0, none⟩) hg _⟩
end
attribute [local go_sem ↓] run_fine
set_option maxRecDepth 100000 in
set_option maxHeartbeats 8000000 in
theorem knums_calls (w0 : World) (cs : Array Value) (h off m : Nat) (ns zs : List Int) (hm : m = ns.length) (hoff : off = 0) (hroom : zs.length + 10 * m ≤ 140737488355000) (w : World) (hS : PutSt w0 cs w zs) (hh : w0.heap.size + 4 ≤ h) (hN : Whole w h 2 (ns.map (Value.int .i64)).toArray) (g2 : Nat) (t2 : TypeId) (cs2 : Array Value) (ht2 : t2 ≠ 5) (hg2 : g2 ≠ w0.heap.size + 1) (hW2 : Whole w g2 t2 cs2) :
 Calls Tryz.prog 31 #[.slice (some ⟨h, off, none⟩) m m, .pointer (some ⟨w0.heap.size + 1, 0, none⟩)] w (fun e w' => e = .returned (.tuple #[]) ∧ PutSt w0 cs w' (zs ++ bytesN (ns.map u64n)) ∧ Whole w' g2 t2 cs2) := by
 have HS := Lib.hid hS; clear hS
 have HN := Lib.hid hN; clear hN
 have HW2 := Lib.hid hW2; clear hW2
 have Ht2 := Lib.hid ht2; clear ht2
 have Hg2 := Lib.hid hg2; clear hg2
 have Hm := Lib.hid hm; clear hm
 have Hoff := Lib.hid hoff; clear hoff
 have Hroom := Lib.hid hroom; clear hroom
 have hbm : m ≤ 9223372036854775807 := by have := Hroom.out; omega
 go_enter Tryz.func31, Tryz.ntmps31
 go_wp2_with fail
 go_loopw [7] (fun s7 wr => ∃ k : Nat, k ≤ m ∧ s7 = .int .i64 (k : Int) ∧ Hid (PutSt w0 cs wr (zs ++ bytesN ((ns.take k).map u64n))) ∧ Hid (Whole wr h 2 (ns.map (Value.int .i64)).toArray) ∧ Hid (Whole wr g2 t2 cs2)) (fun s7 _ => m - (intOf s7).toNat)
 case atStart => exact ⟨0, Nat.zero_le _, rfl, by show PutSt _ _ _ _; simpa [bytesN] using HS.out, HN.out, HW2.out⟩
 case round =>
  obtain ⟨k, hk, rfl, HS, HW, HV2⟩ := hrel
  by_cases hkm : k < m
  · have hkn : k < ns.length := by have := Hm.out; omega
    obtain ⟨z, Hz⟩ : ∃ z, Hid (ns[k] = z) := ⟨_, Lib.hid rfl⟩
    have hcell : wr.cell? ⟨h, off + k, none⟩ = some (.int .i64 z) := by
     rw [Hoff.out, Nat.zero_add, HW.out.cell, ← Hz.out]
     simp [hkn]
    have hlt : h < wr.heap.size := HW.out.lt
    obtain ⟨hb0, hM, lv, hBx, hO⟩ := HS.out
    have j0 : (0 : Int) ≤ (k : Int) := by omega
    have j1 : (k : Int) < (m : Int) := by omega
    have hw1 := wrap_u64n z
    have Hlv := Lib.hid hBx
    have HO := Lib.hid hO
    have HM := Lib.hid hM
    have Hb0 := Lib.hid hb0
    have HT : Hid (ns.take k ++ [z] = ns.take (k + 1)) := by
     show ns.take k ++ [z] = ns.take (k + 1)
     rw [List.take_succ_eq_append_getElem hkn, ← Hz.out]
    clear hb0 hM hBx hO
    have Hrm : Hid ((zs ++ bytesN ((ns.take k).map u64n)).length + (PackMath.num (u64n z)).length ≤ 140737488355300) := by
     show _ ≤ _
     have h1 := bytes_room zs (ns.take k)
     have h2 := PackMath.num_len_64 _ (u64n_lt z)
     have h4 := Hroom.out
     have h5 : (ns.take k).length ≤ k := by rw [List.length_take]; omega
     omega
    go_wp2_with fail
    refine wp_region_each_at ?hm ?hb (fun a0 d a' w' => ∃ (e0 e1 e2 e3 e4 : Value), a' = putAll a0 [(11, e0), (12, e1), (13, e2), (14, e3), (15, e4)] ∧ Below w0.heap.size w0 w' ∧ (d 0 = true → lv = e0) ∧ (d 1 = true → e1 = (.int .i64 z)) ∧ (d 2 = true → e2 = (.int .u64 ((u64n z : Nat) : Int))) ∧ (d 3 = true → (d 4 = false → ∃ A n C, e3 = .slice A n C ∧ n = (PackMath.num (u64n z)).length ∧ n ≤ C ∧ Bytes w' (.slice A n C) (PackMath.num (u64n z)))) ∧ (d 4 = true → (d 0 = true ∧ d 3 = true ∧ (d 5 = false → (∃ A n C, e4 = .slice A n C) ∧ Whole w' (w0.heap.size + 1) 24 #[lv] ∧ OwnB (w0.heap.size + 4) w' e4 ((zs ++ bytesN ((ns.take k).map u64n)) ++ (PackMath.num (u64n z)))))) ∧ (d 5 = true → (d 4 = true ∧ PutSt w0 cs w' ((zs ++ bytesN ((ns.take k).map u64n)) ++ (PackMath.num (u64n z))))) ∧ PutK w0 cs h ns g2 t2 cs2 w' ∧ (d 4 = false → Whole w' (w0.heap.size + 1) 24 #[lv] ∧ OwnB (w0.heap.size + 4) w' lv (zs ++ bytesN ((ns.take k).map u64n)))) ?h0 ?step ?ends
    case hm => kernel_rfl
    case hb => kernel_rfl
    case h0 =>
     refine ⟨u11, u12, u13, u14, u15, ?_, Hb0.out.drew, fun h => absurd h (by decide), fun h => absurd h (by decide), fun h => absurd h (by decide), fun h => absurd h (by decide), fun h => absurd h (by decide), fun h => absurd h (by decide), ⟨HM.out.later (Below.refl _ _).drew, HW.out.drew, HV2.out.drew⟩, fun _ => ⟨Hlv.out.drew, HO.out.later (Below.refl _ _).drew⟩⟩
     simp only [putAll, Act.put, qA, qB, qC]
    case step =>
     intro i d a' w' hi hJ hd hk
     obtain ⟨e0, e1, e2, e3, e4, rfl, hC⟩ := hJ
     obtain ⟨hB, hC⟩ := hC
     obtain ⟨c0, hC⟩ := hC
     obtain ⟨c1, hC⟩ := hC
     obtain ⟨c2, hC⟩ := hC
     obtain ⟨c3, hC⟩ := hC
     obtain ⟨c4, hC⟩ := hC
     obtain ⟨c5, hC⟩ := hC
     obtain ⟨kK, hC⟩ := hC
     have kV := hC
     clear hC
     match i, hi, hd, hk with
     | 0, _, hd, hk =>
       have hd4 : d 4 = false := (Bool.eq_false_or_eq_true (d 4)).elim (fun h => absurd ((c4 h).1.symm.trans hd) (by decide)) id
       have hcb := (kV hd4).1.cell 0
       apply wpOp_at
       case ho => rfl
       intro K hK
       simp only [putAll, Act.put, qA, qB, qC]
       go_simp
       refine hK _ _ ⟨lv, e1, e2, e3, e4, ?_, hB, fun _ => rfl, c1, c2, c3, fun h => ⟨rfl, (c4 h).2⟩, c5, kK, kV⟩
       simp only [putAll, Act.put, qA, qB, qC]
     | 1, _, hd, hk =>
       apply wpOp_at
       case ho => rfl
       intro K hK
       simp only [putAll, Act.put, qA, qB, qC]
       go_simp
       refine hK _ _ ⟨e0, (.int .i64 z), e2, e3, e4, ?_, hB, c0, fun _ => rfl, c2, c3, c4, c5, kK, kV⟩
       simp only [putAll, Act.put, qA, qB, qC]
     | 2, _, hd, hk =>
       have h1 : d 1 = true := hk 1 (by decide +kernel)
       obtain rfl := c1 h1
       apply wpOp_at
       case ho => rfl
       intro K hK
       simp only [putAll, Act.put, qA, qB, qC]
       go_simp
       refine hK _ _ ⟨e0, (.int .i64 z), (.int .u64 ((u64n z : Nat) : Int)), e3, e4, ?_, hB, c0, c1, fun _ => rfl, c3, c4, c5, kK, kV⟩
       simp only [putAll, Act.put, qA, qB, qC]
     | 3, _, hd, hk =>
       have h2 : d 2 = true := hk 2 (by decide +kernel)
       obtain rfl := c2 h2
       apply wpOp_at
       case ho => rfl
       intro K hK
       simp only [putAll, Act.put, qA, qB, qC]
       go_simp
       refine (put_calls none 0 0 [] (u64n z) (u64n_lt z) w' (bytes_nil _ _ _ (fun _ => rfl)) rfl (Nat.le_refl _) (by omega)).mono ?_
       rintro e w'' ⟨v4, rfl, hb, hF4⟩
       rw [List.nil_append] at hF4
       obtain ⟨A4, n4, x4, rfl, hn4, hnc4⟩ := hF4.args
       refine hK _ _ ⟨e0, e1, (.int .u64 ((u64n z : Nat) : Int)), .slice A4 n4 x4, e4, ?_, hB.trans (hb.mono hB.size), c0, c1, c2, fun _ => fun _ => ⟨A4, n4, x4, rfl, hn4, hnc4, hF4.bytes⟩, fun h => absurd ((c4 h).2.1.symm.trans hd) (by decide), fun h => absurd ((c4 (c5 h).1).2.1.symm.trans hd) (by decide), kK.later hb, fun h => ⟨(kV h).1.later hb (kV h).1.lt, (kV h).2.later hb⟩⟩
       simp only [putAll, Act.put, qA, qB, qC]
     | 4, _, hd, hk =>
       have h0 : d 0 = true := hk 0 (by decide +kernel)
       have h3 : d 3 = true := hk 3 (by decide +kernel)
       obtain rfl := c0 h0
       obtain ⟨A4, n4, x4, rfl, hn4, hnc4, hB4⟩ := c3 h3 hd
       obtain ⟨hx4, hO4⟩ := kV hd
       obtain ⟨v5, w5, hrun5, q1, q2, q3⟩ := run_append_own hO4 (by have := kK.1.2.2.lt; omega) hB4 hn4 hnc4 Hrm.out
       have hf9 : ∃ A n C, v5 = .slice A n C := by obtain ⟨A9, C9, e9, _⟩ := q1.form (by rw [List.length_append]; have := Hrm.out; omega); exact ⟨A9, _, C9, e9⟩
       obtain ⟨hf5, hv5, hw5⟩ := fine_of hrun5
       clear hrun5 hn4 hnc4
       apply wpOp_at
       case ho => rfl
       intro K hK
       simp only [putAll, Act.put, qA, qB, qC]
       go_simp
       refine hK _ _ ⟨lv, e1, e2, .slice A4 n4 x4, v5, ?_, hB.trans (q2.mono (by omega)), c0, c1, c2, fun _ h => Bool.noConfusion (show true = false from h), fun _ => ⟨h0, h3, fun _ => ⟨hf9, hx4.later q2 (by omega), q1⟩⟩, fun h => absurd ((c5 h).1.symm.trans hd) (by decide), kK.grown hO4 q2 q3 Ht2.out, fun h => Bool.noConfusion (show true = false from h)⟩
       simp only [putAll, Act.put, qA, qB, qC]
     | 5, _, hd, hk =>
       have h4 : d 4 = true := hk 4 (by decide +kernel)
       obtain ⟨h0, h3, hp4⟩ := c4 h4
       obtain ⟨⟨A5, n5, C5, rfl⟩, hx4, hO4⟩ := hp4 hd
       have hcb := hx4.cell 0
       have hfb := hx4.free 0
       apply wpOp_at
       case ho => rfl
       intro K hK
       simp only [putAll, Act.put, qA, qB, qC]
       go_simp
       refine hK _ _ ⟨e0, e1, e2, e3, .slice A5 n5 C5, ?_, hB.setCell (p := ⟨w0.heap.size + 1, 0, none⟩) (by show _ ≤ w0.heap.size + 1; omega) _, c0, c1, c2, fun _ h => absurd (h4.symm.trans h) (by decide), fun _ => ⟨h0, h3, fun h => Bool.noConfusion (show true = false from h)⟩, fun _ => ⟨h4, PutSt.step hB kK.1 hx4 hO4 (Below.refl _ _)⟩, kK.set hh Hg2.out _, fun h => absurd (h4.symm.trans h) (by decide)⟩
       simp only [putAll, Act.put, qA, qB, qC]
     | k + 6, hi, _, _ => exact absurd hi (by simp)
    case ends =>
     intro d a' w' hJ hall
     obtain ⟨e0, e1, e2, e3, e4, rfl, hC⟩ := hJ
     obtain ⟨hB, hC⟩ := hC
     obtain ⟨c0, hC⟩ := hC
     obtain ⟨c1, hC⟩ := hC
     obtain ⟨c2, hC⟩ := hC
     obtain ⟨c3, hC⟩ := hC
     obtain ⟨c4, hC⟩ := hC
     obtain ⟨c5, hC⟩ := hC
     obtain ⟨kK, hC⟩ := hC
     have kV := hC
     clear hC
     have HP' := Lib.hid (c5 (hall 5 (by decide +kernel))).2
     have HK' := Lib.hid kK.2.1
     have HV' := Lib.hid kK.2.2
     obtain rfl := c0 (hall 0 (by decide +kernel))
     clear c0 c1 c2 c3 c4 c5 kK kV hall hB
     rw [bytes_more, HT.out] at HP'
     simp only [putAll, Act.put, qA, qB, qC]
     go_wp2_with fail
     go_roundw
     case rel => exact ⟨k + 1, by omega, by go_num, HP'.out, HK'.out, HV'.out⟩
     case measure => simp [intOf]; omega
  · obtain rfl : k = m := by omega
    have HS' : Hid (PutSt w0 cs wr (zs ++ bytesN (ns.map u64n))) := by
     have h := HS.out
     rw [Hm.out, List.take_length] at h
     exact h
    go_wp2_with fail
    first | go_end0 | refine bodyPost_ret (results_none rfl _ _ _) rfl ?_
    exact ⟨rfl, HS'.out, HV2.out⟩
end Go.Proofs.YtnkgakhnlbifdaaGreat
namespace Go.Proofs.YtnkgakhnlbifdaaGreat
open Go.RowKit
set_option maxRecDepth 100000 in
set_option maxHeartbeats 8000000 in
theorem klookput_calls (w0 : World) (cs : Array Value) (t p : Int) (zs : List Int) (hroom : zs.length + 10 * 2 ≤ 140737488355000) (w : World) (hS : PutSt w0 cs w zs) :
 Calls Tryz.prog 33 #[.agg #[.int .i64 t, .int .i64 p], .pointer (some ⟨w0.heap.size + 2, 0, none⟩)] w (fun e w' => e = .returned (.tuple #[]) ∧ PutSt w0 cs w' (zs ++ bytesN ([t, p].map u64n))) := by
 have HX := Lib.hid (Whole.made w 31 #[.int .i64 t, .int .i64 p])
 have Hb0 := Lib.hid (below_box w (.cells #[.int .i64 t, .int .i64 p] 31))
 have HS1 := Lib.hid (hS.later Hb0.out)
 have hsz := hS.2.1.2.2.lt
 have Hsz := Lib.hid hsz
 clear hS hsz
 have c0 := HX.out.cell 0
 have c1 := HX.out.cell 1
 have c2 := HS1.out.2.1.2.1.cell 0
 have hcall := fun W g (h1 : PutSt w0 cs W zs) (h2 : w0.heap.size + 4 ≤ g) h3 => (knums_calls w0 cs g 0 2 [t, p] zs rfl rfl hroom W h1 h2 h3 g 2 _ (by decide) (by omega) h3).mono fun _ _ h => (⟨h.1, h.2.1⟩ : _ ∧ _)
 have Hcall := Lib.hid hcall
 clear hcall
 go_enter Tryz.func33, Tryz.ntmps33
 go_wp2_with fail
 refine (Hcall.out _ _ (HS1.out.later (below_box _ _)) (by simp; have := Hsz.out; omega) (by have h := Whole.made2 w (.cells #[.int .i64 t, .int .i64 p] 31) 2 #[.int .i64 t, .int .i64 p]; exact h)).mono ?_
 rintro e w2 ⟨rfl, h2⟩
 have H2 := Lib.hid h2
 clear h2 c0 c1 c2
 go_wp2_with fail
 first | go_end0 | refine bodyPost_ret (results_none rfl _ _ _) rfl ?_
 exact ⟨rfl, H2.out⟩
set_option maxRecDepth 100000 in
set_option maxHeartbeats 8000000 in
theorem knoteput_calls (w0 : World) (cs : Array Value) (x : Nt) (zs : List Int) (hroom : zs.length + 10 * 7 ≤ 140737488355000) (w : World) (hS : PutSt w0 cs w zs) :
 Calls Tryz.prog 34 #[ntV x, .pointer (some ⟨w0.heap.size + 2, 0, none⟩), .pointer (some ⟨w0.heap.size + 3, 0, none⟩)] w (fun e w' => e = .returned (.tuple #[]) ∧ PutSt w0 cs w' (zs ++ bytesN ((noteN x).map u64n))) := by
 obtain ⟨clk, t, a, m, asks, tr, ph⟩ := x
 have HX := Lib.hid (Whole.made w 71 #[.int .i64 clk, .int .i64 t, .int .i64 a, .int .i64 m, .int .i64 asks, .int .i64 tr, .int .i64 ph])
 have Hb0 := Lib.hid (below_box w (.cells #[.int .i64 clk, .int .i64 t, .int .i64 a, .int .i64 m, .int .i64 asks, .int .i64 tr, .int .i64 ph] 71))
 have HS1 := Lib.hid (hS.later Hb0.out)
 have hsz := hS.2.1.2.2.lt
 have Hsz := Lib.hid hsz
 clear hS hsz
 have c0 := HX.out.cell 0
 have c1 := HX.out.cell 1
 have c2 := HX.out.cell 2
 have c3 := HX.out.cell 3
 have c4 := HX.out.cell 4
 have c8 := HS1.out.2.1.2.1.cell 0
 have hl5 : (zs ++ bytesN ([clk, t, a, m, asks].map u64n)).length + 10 * 2 ≤ 140737488355000 := by
  have h := bytes_room zs [clk, t, a, m, asks]
  have h2 : [clk, t, a, m, asks].length = 5 := rfl
  omega
 have hcall := fun W g (h1 : PutSt w0 cs W zs) (h2 : w0.heap.size + 4 ≤ g) h3 h4 => knums_calls w0 cs g 0 5 [clk, t, a, m, asks] zs rfl rfl (by omega) W h1 h2 h3 w.heap.size 71 #[.int .i64 clk, .int .i64 t, .int .i64 a, .int .i64 m, .int .i64 asks, .int .i64 tr, .int .i64 ph] (by decide) (by have := Hsz.out; omega) h4
 have hcall2 := fun W (h1 : PutSt w0 cs W (zs ++ bytesN ([clk, t, a, m, asks].map u64n))) => klookput_calls w0 cs tr ph (zs ++ bytesN ([clk, t, a, m, asks].map u64n)) hl5 W h1
 rw [List.append_assoc, ← bytesN_append, ← List.map_append, show [clk, t, a, m, asks] ++ [tr, ph] = noteN ⟨clk, t, a, m, asks, tr, ph⟩ from rfl] at hcall2
 have Hcall := Lib.hid hcall
 have Hcall2 := Lib.hid hcall2
 clear hcall hcall2 hl5
 go_enter Tryz.func34, Tryz.ntmps34
 go_wp2_with fail
 refine (Hcall.out _ _ (HS1.out.later (below_box _ _)) (by simp; have := Hsz.out; omega) (by have h := Whole.made2 w (.cells #[.int .i64 clk, .int .i64 t, .int .i64 a, .int .i64 m, .int .i64 asks, .int .i64 tr, .int .i64 ph] 71) 2 #[.int .i64 clk, .int .i64 t, .int .i64 a, .int .i64 m, .int .i64 asks]; exact h) (HX.out.later (below_box _ _) HX.out.lt)).mono ?_
 rintro e w2 ⟨rfl, h2, hX2⟩
 have H2 := Lib.hid h2
 have x5 := hX2.cell 5
 have x6 := hX2.cell 6
 have k8 := H2.out.2.1.2.2.cell 0
 clear h2 hX2 c0 c1 c2 c3 c4 c8
 go_wp2_with fail
 refine (Hcall2.out _ H2.out).mono ?_
 rintro e w3 ⟨rfl, h3⟩
 have H3 := Lib.hid h3
 clear h3 x5 x6 k8
 go_wp2_with fail
 first | go_end0 | refine bodyPost_ret (results_none rfl _ _ _) rfl ?_
 exact ⟨rfl, H3.out⟩
end Go.Proofs.YtnkgakhnlbifdaaGreat
namespace Go.Proofs.YtnkgakhnlbifdaaGreat
open Go.RowKit
theorem pairN_take {l : List Rq} {k : Nat} {y : Rq} (h : k < l.length) (hy : rqAt l k = y) : pairN (l.take (k + 1)) = pairN (l.take k) ++ [y.t, y.m] := by
 rw [List.take_succ_eq_append_getElem h]
 unfold rqAt at hy
 rw [List.getElem?_eq_getElem h] at hy
 have h8 : l[k] = y := hy
 rw [h8]
 unfold pairN
 rw [List.flatMap_append, List.flatMap_singleton]
theorem notesN_take {l : List Nt} {k : Nat} {y : Nt} (h : k < l.length) (hy : ntAt l k = y) : notesN (l.take (k + 1)) = notesN (l.take k) ++ noteN y := by
 rw [List.take_succ_eq_append_getElem h]
 unfold ntAt at hy
 rw [List.getElem?_eq_getElem h] at hy
 have h8 : l[k] = y := hy
 rw [h8]
 unfold notesN
 rw [List.flatMap_append, List.flatMap_singleton]
def tripK (a : Au) (k : Nat) : List Int := (List.range k).flatMap fun i => [oneI (a.told[i]?.getD false), a.use[i]?.getD 0, a.inc[i]?.getD 0]
theorem tripK_succ (a : Au) (k : Nat) : tripK a (k + 1) = tripK a k ++ [oneI (a.told[k]?.getD false), a.use[k]?.getD 0, a.inc[k]?.getD 0] := by
 unfold tripK
 rw [List.range_succ, List.flatMap_append, List.flatMap_singleton]
theorem tripK_len (a : Au) (k : Nat) : (tripK a k).length = 3 * k := trip_len _ _ fun _ => rfl
theorem rest_none (x : Bk) (h : x.au = au0) : restN x = ((((((x.line.length : Int) :: pairN x.line) ++ [(x.outs.length : Int)]) ++ pairN x.outs) ++ [x.asks]) ++ notesN x.notes) ++ [x.au.try_, x.au.ph] := by
 unfold restN auN
 rw [if_pos h]
 simp
theorem rest_some (x : Bk) (h : x.au ≠ au0) : restN x = (((((((x.line.length : Int) :: pairN x.line) ++ [(x.outs.length : Int)]) ++ pairN x.outs) ++ [x.asks]) ++ notesN x.notes) ++ [x.au.try_, x.au.ph] ++ tripK x.au x.au.told.length) ++ [oneI x.au.moved] := by
 unfold restN auN tripK tripN
 rw [if_neg h]
 simp
end Go.Proofs.YtnkgakhnlbifdaaGreat
