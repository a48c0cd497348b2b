/- Parts, as far as BookTakesCards reaches them, of: BookPut. No law is proved here. -/
import Derived.Test.YtnkgakhnlbifdaaGreatTb34
import Derived.Test.YtnkgakhnlbifdaaGreatTb33
import Derived.Test.YtnkgakhnlbifdaaGreatTb28
import Derived.Test.YtnkgakhnlbifdaaGreatTbQ
namespace Go.Proofs.YtnkgakhnlbifdaaGreat
open Go.RowKit
theorem kdigit_calls (b : Bool) (w : World) : Calls Tryz.prog 37 #[.bool b] w (fun e w' => e = .returned (.int .i64 (oneI b)) ∧ w = w') := by
 cases b with
 | false =>
   go_enter Tryz.func37, Tryz.ntmps37
   go_wp2_with fail
   go_ret
   exact ⟨by rfl, rfl⟩
 | true =>
   go_enter Tryz.func37, Tryz.ntmps37
   go_wp2_with fail
   go_ret
   exact ⟨by rfl, rfl⟩
set_option maxRecDepth 100000 in
set_option maxHeartbeats 4000000 in
theorem kat_calls (a : Option Addr) (m c : Nat) (l : List Int) (hm : m = l.length) (k : Nat) (hk : k ≤ 1000000) (w : World) (hB : Nums w (.slice a m c) l) : Calls Tryz.prog 38 #[.slice a m c, .int .i64 (k : Int)] w (fun e w' => e = .returned (.int .i64 (l[k]?.getD 0)) ∧ w = w') := by
 have hbig : m ≤ 9223372036854775807 := by rw [hm]; exact hB.1
 by_cases h : k < m
 · obtain ⟨b, off, rfl, _, g0⟩ := hB.at (i := k) (by omega)
   obtain ⟨y, Hy⟩ : ∃ z, Hid (l[k]?.getD 0 = z) := ⟨_, rfl⟩
   rw [Hy.out] at g0 ⊢
   have Hm := Lib.hid hm; clear hm hB
   have j0 : (0 : Int) ≤ (k : Int) := by omega
   have j1 : (k : Int) < (m : Int) := by omega
   go_enter Tryz.func38, Tryz.ntmps38
   go_wp2_with fail
   go_ret
   exact ⟨by rfl, rfl⟩
 · have hz : l[k]?.getD 0 = 0 := by rw [List.getElem?_eq_none (by omega)]; rfl
   rw [hz]
   have j1 : ¬ (k : Int) < (m : Int) := by omega
   clear hz hB hm
   go_enter Tryz.func38, Tryz.ntmps38
   go_wp2_with fail
   go_ret
   exact ⟨by rfl, rfl⟩
theorem ownB_mono {B B' : Nat} {w : World} {v : Value} {zs : List Int} (h : OwnB B w v zs) (hB : B' ≤ B) : OwnB B' w v zs :=
 ⟨⟨h.1.1, h.1.2.imp id fun ⟨g, cap, cur, h1, h2, h3⟩ => ⟨g, cap, cur, h1, Nat.le_trans hB h2, h3⟩⟩, h.2⟩
theorem kput_at (w0 : World) (cs : Array Value) (z2 Q : List Int) (ns : List Int) (T : Nat) (hz : z2.length + 10 * T ≤ 140737488355000) (hT : Q.length + ns.length ≤ T) (g m : Nat) (hm : m = ns.length) (W : World) (hS : PutSt w0 cs W (z2 ++ bytesN (Q.map u64n))) (hh : w0.heap.size + 4 ≤ g) (hN : Whole W g 2 (ns.map (Value.int .i64)).toArray) :
 Calls Tryz.prog 31 #[.slice (some ⟨g, 0, none⟩) m m, .pointer (some ⟨w0.heap.size + 1, 0, none⟩)] W (fun e w' => e = .returned (.tuple #[]) ∧ PutSt w0 cs w' (z2 ++ bytesN ((Q ++ ns).map u64n))) := by
 have h := bytes_room z2 Q
 refine (knums_calls w0 cs g 0 m ns (z2 ++ bytesN (Q.map u64n)) hm rfl (by omega) W hS hh hN g 2 _ (by decide) (by omega) hN).mono fun e w' h => ⟨h.1, ?_⟩
 have h2 := h.2.1
 rw [List.append_assoc, ← bytesN_append, ← List.map_append] at h2
 exact h2
theorem klook_at (w0 : World) (cs : Array Value) (z2 Q : List Int) (t p : Int) (T : Nat) (hz : z2.length + 10 * T ≤ 140737488355000) (hT : Q.length + 2 ≤ T) (W : World) (hS : PutSt w0 cs W (z2 ++ bytesN (Q.map u64n))) :
 Calls Tryz.prog 33 #[.agg #[.int .i64 t, .int .i64 p], .pointer (some ⟨w0.heap.size + 2, 0, none⟩)] W (fun e w' => e = .returned (.tuple #[]) ∧ PutSt w0 cs w' (z2 ++ bytesN ((Q ++ [t, p]).map u64n))) := by
 have h := bytes_room z2 Q
 refine (klookput_calls w0 cs t p (z2 ++ bytesN (Q.map u64n)) (by omega) W hS).mono fun e w' h => ⟨h.1, ?_⟩
 have h2 := h.2
 rw [List.append_assoc, ← bytesN_append, ← List.map_append] at h2
 exact h2
theorem knote_at (w0 : World) (cs : Array Value) (z2 Q : List Int) (x : Nt) (T : Nat) (hz : z2.length + 10 * T ≤ 140737488355000) (hT : Q.length + 7 ≤ T) (W : World) (hS : PutSt w0 cs W (z2 ++ bytesN (Q.map u64n))) :
 Calls Tryz.prog 34 #[ntV x, .pointer (some ⟨w0.heap.size + 2, 0, none⟩), .pointer (some ⟨w0.heap.size + 3, 0, none⟩)] W (fun e w' => e = .returned (.tuple #[]) ∧ PutSt w0 cs w' (z2 ++ bytesN ((Q ++ noteN x).map u64n))) := by
 have h := bytes_room z2 Q
 refine (knoteput_calls w0 cs x (z2 ++ bytesN (Q.map u64n)) (by omega) W hS).mono fun e w' h => ⟨h.1, ?_⟩
 have h2 := h.2
 rw [List.append_assoc, ← bytesN_append, ← List.map_append] at h2
 exact h2
set_option maxRecDepth 1000000 in
set_option maxHeartbeats 16000000 in
theorem kPut_calls (x : Bk) (p : Bl) (w : World) (hK : BkIn w p x) (hs : p.m2 ≤ 40 ∧ p.m3 ≤ 40 ∧ p.m4 ≤ 40 ∧ p.al.m1 ≤ 40 ∧ p.al.m2 ≤ 40 ∧ p.al.m3 ≤ 40) (hroom : 10 * (allK x).length ≤ 140737488350000) :
 Calls Tryz.prog 11 #[bkAt x p] w (Made w (bookBytes x)) := by
 have hmf : ∀ (fn : Fn) (first cap : Array Value) (w : World), (Instr.makeFunc fn first cap).run Tryz.prog w = .ok (.func fn first cap) w := fun _ _ _ _ => rfl
 obtain ⟨⟨hm1, hB1⟩, ⟨hm2, hB2⟩, ⟨hm3, hB3⟩, ⟨hm4, hB4⟩, hA⟩ := hK
 have ba : p.al.m1 ≤ 9223372036854775807 ∧ p.al.m2 ≤ 9223372036854775807 ∧ p.al.m3 ≤ 9223372036854775807 := by omega
 obtain ⟨s2, s3, s4, s5, s6, s7⟩ := hs
 have hall : (allK x).length = 1 + ((flatR x.rows).length + (restN x).length) := by unfold allK; rw [List.length_cons, List.length_append]; omega
 have hparts := bookBytes_parts x
 obtain ⟨R, HR⟩ : ∃ z, Hid (restN x = z) := ⟨_, rfl⟩
 obtain ⟨T, HT⟩ : ∃ z, Hid (R.length = z) := ⟨_, rfl⟩
 rw [HR.out] at hall hparts
 rw [HT.out] at hall
 have Hall := Lib.hid hall; clear hall
 have Hparts := Lib.hid hparts; clear hparts
 have Hroom := Lib.hid hroom; clear hroom
 obtain ⟨zs, Hzs⟩ : ∃ z, Hid (bookBytes x = z) := ⟨_, rfl⟩
 obtain ⟨L, HL⟩ : ∃ z, Hid ((flatR x.rows).length = z) := ⟨_, rfl⟩
 rw [Hzs.out] at Hparts ⊢
 rw [HL.out] at Hall
 obtain ⟨clk, rows, line, outs, asks, notes, ⟨tr, ph, told, use, inc, moved⟩⟩ := x
 obtain ⟨a1, m1, cp1, a2, m2, cp2, a3, m3, cp3, a4, m4, cp4, ⟨a5, m5, cp5, a6, m6, cp6, a7, m7, cp7⟩⟩ := p
 simp only at hm1 hB1 hm2 hB2 hm3 hB3 hm4 hB4 ba s2 s3 s4 s5 s6 s7
 have HB1 := Lib.hid hB1; clear hB1
 have HB2 := Lib.hid hB2; clear hB2
 have HB3 := Lib.hid hB3; clear hB3
 have HB4 := Lib.hid hB4; clear hB4
 have HA := Lib.hid hA; clear hA
 have HBa := Lib.hid ba; clear ba
 have Hm1 := Lib.hid hm1; clear hm1
 have Hm2 := Lib.hid hm2; clear hm2
 have Hm3 := Lib.hid hm3; clear hm3
 have Hm4 := Lib.hid hm4; clear hm4
 obtain ⟨V1, HV1⟩ : ∃ q, Hid (q = w.alloc (.cells (bkAtC ⟨clk, rows, line, outs, asks, notes, ⟨tr, ph, told, use, inc, moved⟩⟩ ⟨a1, m1, cp1, a2, m2, cp2, a3, m3, cp3, a4, m4, cp4, ⟨a5, m5, cp5, a6, m6, cp6, a7, m7, cp7⟩⟩) 37)) := ⟨_, rfl⟩
 obtain ⟨V2, HV2⟩ : ∃ q, Hid (q = V1.alloc (.cells #[.slice none 0 0] 24)) := ⟨_, rfl⟩
 obtain ⟨V3, HV3⟩ : ∃ q, Hid (q = V2.alloc (.cells #[.func (.func 31) #[] #[.pointer (some ⟨w.heap.size + 1, 0, none⟩)]] 80)) := ⟨_, rfl⟩
 obtain ⟨V4, HV4⟩ : ∃ q, Hid (q = V3.alloc (.cells #[.func (.func 33) #[] #[.pointer (some ⟨w.heap.size + 2, 0, none⟩)]] 81)) := ⟨_, rfl⟩
 have z1 : V1.heap.size = w.heap.size + 1 := by rw [HV1.out]; simp
 have z2 : V2.heap.size = w.heap.size + 2 := by rw [HV2.out]; simp; exact z1
 have z3 : V3.heap.size = w.heap.size + 3 := by rw [HV3.out]; simp; exact z2
 have z4 : V4.heap.size = w.heap.size + 4 := by rw [HV4.out]; simp; exact z3
 have w1 : Whole V1 w.heap.size 37 (bkAtC ⟨clk, rows, line, outs, asks, notes, ⟨tr, ph, told, use, inc, moved⟩⟩ ⟨a1, m1, cp1, a2, m2, cp2, a3, m3, cp3, a4, m4, cp4, ⟨a5, m5, cp5, a6, m6, cp6, a7, m7, cp7⟩⟩) := by rw [HV1.out]; exact Whole.made _ _ _
 have w2 : Whole V2 (w.heap.size + 1) 24 #[.slice none 0 0] := by rw [HV2.out, ← z1]; exact Whole.made _ _ _
 have w3 : Whole V3 (w.heap.size + 2) 80 #[.func (.func 31) #[] #[.pointer (some ⟨w.heap.size + 1, 0, none⟩)]] := by rw [HV3.out, ← z2]; exact Whole.made _ _ _
 have w4 : Whole V4 (w.heap.size + 3) 81 #[.func (.func 33) #[] #[.pointer (some ⟨w.heap.size + 2, 0, none⟩)]] := by rw [HV4.out, ← z3]; exact Whole.made _ _ _
 have b1 : Below w.heap.size w V1 := by rw [HV1.out]; exact below_box _ _
 have b2 : Below V1.heap.size V1 V2 := by rw [HV2.out]; exact below_box _ _
 have b3 : Below V2.heap.size V2 V3 := by rw [HV3.out]; exact below_box _ _
 have b4 : Below V3.heap.size V3 V4 := by rw [HV4.out]; exact below_box _ _
 have HS0 : Hid (PutSt w (bkAtC ⟨clk, rows, line, outs, asks, notes, ⟨tr, ph, told, use, inc, moved⟩⟩ ⟨a1, m1, cp1, a2, m2, cp2, a3, m3, cp3, a4, m4, cp4, ⟨a5, m5, cp5, a6, m6, cp6, a7, m7, cp7⟩⟩) V4 []) := ⟨held_next (held_next (held_next b1 b2) b3) b4, ⟨w1.later (held_next (held_next b2 b3) b4) w1.lt, w3.later b4 w3.lt, w4⟩, _, w2.later (held_next b3 b4) w2.lt, ownB_nil _ _⟩
 have Hz4 := Lib.hid z4
 clear z1 z2 z3 z4 w1 w2 w3 w4 b1 b2 b3 b4
 go_enter Tryz.func11, Tryz.ntmps11
 go_wp2_with fail
 show Calls _ _ _ ((((((w.alloc (.cells (bkAtC ⟨clk, rows, line, outs, asks, notes, ⟨tr, ph, told, use, inc, moved⟩⟩ ⟨a1, m1, cp1, a2, m2, cp2, a3, m3, cp3, a4, m4, cp4, ⟨a5, m5, cp5, a6, m6, cp6, a7, m7, cp7⟩⟩) 37)).alloc (.cells #[.slice none 0 0] 24)).alloc (.cells #[.func (.func 31) #[] #[.pointer (some ⟨w.heap.size + 1, 0, none⟩)]] 80)).alloc (.cells #[.func (.func 33) #[] #[.pointer (some ⟨w.heap.size + 2, 0, none⟩)]] 81))).alloc (.cells #[.int .i64 clk] 2)) _
 rw [← HV1.out, ← HV2.out, ← HV3.out, ← HV4.out]
 clear HV1 HV2 HV3 HV4 V1 V2 V3
 refine (kput_at w (bkAtC ⟨clk, rows, line, outs, asks, notes, ⟨tr, ph, told, use, inc, moved⟩⟩ ⟨a1, m1, cp1, a2, m2, cp2, a3, m3, cp3, a4, m4, cp4, ⟨a5, m5, cp5, a6, m6, cp6, a7, m7, cp7⟩⟩) [] [] [clk] 1 (by decide) (by simp) _ 1 rfl _ (HS0.out.later (below_box _ _)) (Nat.le_refl _) (by have h := Whole.made V4 2 #[.int .i64 clk]; rw [Hz4.out] at h; exact h)).mono ?_
 rintro e w1 ⟨rfl, hS1⟩
 obtain ⟨zc, Hzc⟩ : ∃ z, Hid (bytesN [u64n clk] = z) := ⟨_, rfl⟩
 have hS1 : PutSt w (bkAtC ⟨clk, rows, line, outs, asks, notes, ⟨tr, ph, told, use, inc, moved⟩⟩ ⟨a1, m1, cp1, a2, m2, cp2, a3, m3, cp3, a4, m4, cp4, ⟨a5, m5, cp5, a6, m6, cp6, a7, m7, cp7⟩⟩) w1 zc := by rw [← Hzc.out]; exact hS1
 clear HS0 Hz4 V4
 have hl1 : zc.length ≤ 10 := by have h := bytes_room [] [clk]; rw [← Hzc.out]; simpa using h
 obtain ⟨hb1, hX1, v1, hx1, hO1⟩ := hS1
 obtain ⟨A1, C1, hv1, hC1l, hB1⟩ := hO1.form (by omega)
 obtain ⟨n1, Hn1⟩ : ∃ z, Hid (z = zc.length) := ⟨_, rfl⟩
 rw [← Hn1.out] at hB1 hC1l hv1 hl1
 subst hv1
 have HBy1 := Lib.hid hB1; have HO1 := Lib.hid hO1; have HC1l := Lib.hid hC1l; have Hl1 := Lib.hid hl1; have Hb1 := Lib.hid hb1; have HX1 := Lib.hid hX1; have HV1 := Lib.hid hx1
 clear hb1 hX1 hx1 hO1 hB1 hC1l hl1
 obtain ⟨⟨e0, e1, e2, e3⟩, ⟨e4, e5, e6, e7⟩, e8, e9, e10, e11⟩ := bk_cells HX1.out.1
 simp only at e0 e1 e2 e3 e4 e5 e6 e7 e8 e9 e10 e11
 have x1 := HV1.out.cell 0
 go_wp2_with fail
 refine (pPut_own A1 n1 C1 zc a1 m1 cp1 rows w1 HBy1.out Hn1.out HC1l.out Hm1.out (HB1.out.later Hb1.out) (by rw [HL.out]; have h := Hroom.out; have h2 := Hl1.out; have h3 := Hall.out; have := Hn1.out; omega)).mono ?_
 rintro e w2 ⟨A2, n2, C2, rfl, hn2, hC2, hB2, hb2, hO2⟩
 obtain ⟨z2, Hz2⟩ : ∃ z, Hid (zc ++ booksB rows = z) := ⟨_, rfl⟩
 have hl2 : (zc ++ booksB rows).length + 10 * T ≤ 140737488355000 := by
  have h := bytes_room [] (flatR rows)
  have h2 := Hl1.out
  have h3 := Hn1.out
  rw [List.nil_append, List.length_nil] at h
  rw [List.length_append]
  have h4 : (booksB rows).length ≤ 0 + 10 * (flatR rows).length := h
  have h7 : (flatR rows).length = L := HL.out
  have h5 := Hroom.out; have h6 := Hall.out
  omega
 rw [Hz2.out] at hn2 hB2 hO2 hl2
 have Hlz := Lib.hid hl2
 have HX2 := Lib.hid (HX1.out.later hb2)
 have HV2 := Lib.hid (HV1.out.later hb2 HV1.out.lt)
 have hsz1 := HX1.out.2.2.lt
 have HS2 : Hid (PutSt w (bkAtC ⟨clk, rows, line, outs, asks, notes, ⟨tr, ph, told, use, inc, moved⟩⟩ ⟨a1, m1, cp1, a2, m2, cp2, a3, m3, cp3, a4, m4, cp4, ⟨a5, m5, cp5, a6, m6, cp6, a7, m7, cp7⟩⟩) (w2.setCell ⟨w.heap.size + 1, 0, none⟩ (.slice A2 n2 C2)) (z2 ++ bytesN (([] : List Int).map u64n))) := by
  show PutSt _ _ _ (z2 ++ [])
  rw [List.append_nil]
  exact PutSt.step Hb1.out HX1.out HV1.out (ownB_mono hO2 (by omega)) (hb2.mono (by omega))
 have hz5 : w.heap.size + 3 < w2.heap.size := HX2.out.2.2.lt
 have HBC := Lib.hid (fun (W : World) (h : Whole W w.heap.size 37 (bkAtC ⟨clk, rows, line, outs, asks, notes, ⟨tr, ph, told, use, inc, moved⟩⟩ ⟨a1, m1, cp1, a2, m2, cp2, a3, m3, cp3, a4, m4, cp4, ⟨a5, m5, cp5, a6, m6, cp6, a7, m7, cp7⟩⟩)) => bk_cells h)
 obtain ⟨cs, HBX0⟩ : ∃ q, Hid ((bkAtC ⟨clk, rows, line, outs, asks, notes, ⟨tr, ph, told, use, inc, moved⟩⟩ ⟨a1, m1, cp1, a2, m2, cp2, a3, m3, cp3, a4, m4, cp4, ⟨a5, m5, cp5, a6, m6, cp6, a7, m7, cp7⟩⟩) = q) := ⟨_, rfl⟩
 rw [HBX0.out] at HS2 HBC
 clear hn2 hB2 hO2 hl2 hC2 hb2 hsz1 e0 e1 e2 e3 e4 e5 e6 e7 e8 e9 e10 e11 x1
 obtain ⟨⟨e0, e1, e2, e3⟩, ⟨e4, e5, e6, e7⟩, e8, e9, e10, e11⟩ := bk_cells HX2.out.1
 simp only at e0 e1 e2 e3 e4 e5 e6 e7 e8 e9 e10 e11
 have x1 := HV2.out.cell 0
 have x2 := HV2.out.free 0
 have x4 : w2.cell? ⟨w.heap.size + 1 + 1, 0, none⟩ = some (.func (.func 31) #[] #[.pointer (some ⟨w.heap.size + 1, 0, none⟩)]) := HX2.out.2.1.cell 0
 have HTT : Hid (∀ Q S : List Int, Q ++ S = R → Q.length ≤ T) := fun Q S h => by rw [← HT.out, ← h, List.length_append]; omega
 go_wp2_with fail
 have HT2 : Hid (T = 3 + 2 * m2 + 2 * m3 + 7 * m4 + (auN ⟨tr, ph, told, use, inc, moved⟩).length) := by
  show T = _
  have h2 : m2 = line.length := Hm2.out
  have h3 : m3 = outs.length := Hm3.out
  have h4 : m4 = notes.length := Hm4.out
  rw [← HT.out, ← HR.out]
  unfold restN
  simp only [List.length_append, List.length_cons, pairN_len, notesN_len]
  omega
 refine (kput_at w cs z2 [] [((m2 : Nat) : Int)] T Hlz.out (by have h1 := HT2.out; simp; omega) _ 1 rfl _ (HS2.out.later (below_box _ _)) (by omega) (Whole.madeAt _ _ _ _ (by simp))).mono ?_
 rintro e w3 ⟨rfl, hS⟩
 rw [List.nil_append] at hS
 have HS3 := Lib.hid hS
 clear hS HS2 e0 e1 e2 e3 e4 e5 e6 e7 e8 e9 e10 e11 x1 x2 x4 hz5
 obtain ⟨⟨e0, e1, e2, e3⟩, ⟨e4, e5, e6, e7⟩, e8, e9, e10, e11⟩ := HBC.out _ HS3.out.2.1.1
 try simp only at e0 e1 e2 e3 e4 e5 e6 e7 e8 e9 e10 e11
 have x4 : w3.cell? ⟨w.heap.size + 1 + 1, 0, none⟩ = some (.func (.func 31) #[] #[.pointer (some ⟨w.heap.size + 1, 0, none⟩)]) := HS3.out.2.1.2.1.cell 0
 have x5 : w3.cell? ⟨w.heap.size + 1 + 1 + 1, 0, none⟩ = some (.func (.func 33) #[] #[.pointer (some ⟨w.heap.size + 2, 0, none⟩)]) := HS3.out.2.1.2.2.cell 0
 have hz5 : w.heap.size + 3 < w3.heap.size := HS3.out.2.1.2.2.lt
 go_wp2_with fail
 go_loopw [36] (fun sS wr => ∃ k : Nat, k ≤ m2 ∧ sS = .int .i64 (k : Int) ∧ Hid (PutSt w cs wr (z2 ++ bytesN (([((m2 : Nat) : Int)] ++ pairN (line.take k)).map u64n)))) (fun sS _ => m2 - (intOf sS).toNat)
 case atStart => exact ⟨0, Nat.zero_le _, rfl, by show PutSt _ _ _ _; rw [List.take_zero, show pairN [] = [] from rfl, List.append_nil]; exact HS3.out⟩
 case round =>
  clear HS3 e0 e1 e2 e3 e4 e5 e6 e7 e8 e9 e10 e11 x4 x5 hz5
  obtain ⟨k, hk, rfl, HS⟩ := hrel
  by_cases hkm : k < m2
  · have hkl : k < line.length := by have h : m2 = line.length := Hm2.out; omega
    obtain ⟨b, off, rfl, g0, g1, g2⟩ := (HB2.out.later HS.out.1).at (i := k) hkl
    obtain ⟨y, Hy⟩ : ∃ z, Hid (rqAt line k = z) := ⟨_, rfl⟩
    have hpk := pairN_take hkl Hy.out
    rw [Hy.out] at g0 g1 g2
    obtain ⟨yt, ya, ym⟩ := y
    simp only at g0 g1 g2 hpk
    have j0 : (0 : Int) ≤ (k : Int) := by omega
    have j1 : (k : Int) < (m2 : Int) := by omega
    have hbl : b < wr.heap.size := World.block_lt_of_cell? wr _ g0
    have Hpk := Lib.hid hpk
    have Hkl := Lib.hid hkl
    have HS9 := Lib.hid (HS.out.later (below_box wr (.cells #[.int .i64 yt, .int .i64 ya, .int .i64 ym] 67)))
    have HX9 := Lib.hid (Whole.made wr 67 #[.int .i64 yt, .int .i64 ya, .int .i64 ym])
    have u0 := HX9.out.cell 0; have u2 := HX9.out.cell 2
    have x4 : (wr.alloc (.cells #[.int .i64 yt, .int .i64 ya, .int .i64 ym] 67)).cell? ⟨w.heap.size + 1 + 1, 0, none⟩ = some (.func (.func 31) #[] #[.pointer (some ⟨w.heap.size + 1, 0, none⟩)]) := HS9.out.2.1.2.1.cell 0
    have hz5 : w.heap.size + 3 < wr.heap.size := HS.out.2.1.2.2.lt
    have hl5 : wr.heap.size < (wr.alloc (.cells #[.int .i64 yt, .int .i64 ya, .int .i64 ym] 67)).heap.size := HX9.out.lt
    have HRM : Hid (([((m2 : Nat) : Int)] ++ pairN (line.take k)).length + [yt, ym].length ≤ T) := by
     show _ ≤ _
     have h1 := HT2.out; have h2 := Hkl.out; have h4 : m2 = line.length := Hm2.out; have h5 : m3 = outs.length := Hm3.out
     simp only [List.length_append, List.length_cons, List.length_nil, pairN_len, List.length_take]
     omega
    clear hkl hpk
    go_wp2_with fail
    refine (kput_at w cs z2 ([((m2 : Nat) : Int)] ++ pairN (line.take k)) [yt, ym] T Hlz.out HRM.out _ 2 rfl _ (HS9.out.later (below_box _ _)) (by simp; omega) (Whole.madeAt _ _ _ _ (by simp))).mono ?_
    rintro e w9 ⟨rfl, hS9⟩
    rw [List.append_assoc, ← Hpk.out] at hS9
    have HN := Lib.hid hS9
    clear hS9 g0 g1 g2 u0 u2 x4 hz5 hl5
    go_wp2_with fail
    go_roundw
    case rel => exact ⟨k + 1, by omega, by go_num, HN.out⟩
    case measure => simp [intOf]; omega
  · obtain rfl : m2 = k := by omega
    have HS4 : Hid (PutSt w cs wr (z2 ++ bytesN (([((m2 : Nat) : Int)] ++ pairN line).map u64n))) := by
     have h := HS.out
     rw [List.take_of_length_le (show line.length ≤ m2 from Nat.le_of_eq Hm2.out.symm)] at h
     exact h
    clear HS
    obtain ⟨⟨e0, e1, e2, e3⟩, ⟨e4, e5, e6, e7⟩, e8, e9, e10, e11⟩ := HBC.out _ HS4.out.2.1.1
    try simp only at e0 e1 e2 e3 e4 e5 e6 e7 e8 e9 e10 e11
    have x4 : wr.cell? ⟨w.heap.size + 1 + 1, 0, none⟩ = some (.func (.func 31) #[] #[.pointer (some ⟨w.heap.size + 1, 0, none⟩)]) := HS4.out.2.1.2.1.cell 0
    have x5 : wr.cell? ⟨w.heap.size + 1 + 1 + 1, 0, none⟩ = some (.func (.func 33) #[] #[.pointer (some ⟨w.heap.size + 2, 0, none⟩)]) := HS4.out.2.1.2.2.cell 0
    have hz5 : w.heap.size + 3 < wr.heap.size := HS4.out.2.1.2.2.lt
    obtain ⟨wl, hwl⟩ : ∃ z, z = wr := ⟨_, rfl⟩
    subst hwl
    go_wp2_with fail
    refine (kput_at w cs z2 ([((m2 : Nat) : Int)] ++ pairN line) [((m3 : Nat) : Int)] T Hlz.out (by have h1 := HT2.out; have h2 : m2 = line.length := Hm2.out; simp only [List.length_append, List.length_cons, List.length_nil, pairN_len]; omega) _ 1 rfl _ (HS4.out.later (below_box _ _)) (by omega) (Whole.madeAt _ _ _ _ (by simp))).mono ?_
    rintro e w5 ⟨rfl, hS⟩
    have HS5 := Lib.hid hS
    clear hS HS4 e0 e1 e2 e3 e4 e5 e6 e7 e8 e9 e10 e11 x4 x5 hz5
    obtain ⟨⟨e0, e1, e2, e3⟩, ⟨e4, e5, e6, e7⟩, e8, e9, e10, e11⟩ := HBC.out _ HS5.out.2.1.1
    try simp only at e0 e1 e2 e3 e4 e5 e6 e7 e8 e9 e10 e11
    have x4 : w5.cell? ⟨w.heap.size + 1 + 1, 0, none⟩ = some (.func (.func 31) #[] #[.pointer (some ⟨w.heap.size + 1, 0, none⟩)]) := HS5.out.2.1.2.1.cell 0
    have x5 : w5.cell? ⟨w.heap.size + 1 + 1 + 1, 0, none⟩ = some (.func (.func 33) #[] #[.pointer (some ⟨w.heap.size + 2, 0, none⟩)]) := HS5.out.2.1.2.2.cell 0
    have hz5 : w.heap.size + 3 < w5.heap.size := HS5.out.2.1.2.2.lt
    go_wp2_with fail
    go_loopw [58] (fun sS wr => ∃ k : Nat, k ≤ m3 ∧ sS = .int .i64 (k : Int) ∧ Hid (PutSt w cs wr (z2 ++ bytesN (((([((m2 : Nat) : Int)] ++ pairN line) ++ [((m3 : Nat) : Int)]) ++ pairN (outs.take k)).map u64n)))) (fun sS _ => m3 - (intOf sS).toNat)
    case atStart => exact ⟨0, Nat.zero_le _, rfl, by show PutSt _ _ _ _; rw [List.take_zero, show pairN [] = [] from rfl, List.append_nil]; exact HS5.out⟩
    case round =>
     clear HS5 e0 e1 e2 e3 e4 e5 e6 e7 e8 e9 e10 e11 x4 x5 hz5
     obtain ⟨k, hk, rfl, HS⟩ := hrel
     by_cases hkm : k < m3
     · have hkl : k < outs.length := by have h : m3 = outs.length := Hm3.out; omega
       obtain ⟨b, off, rfl, g0, g1, g2⟩ := (HB3.out.later HS.out.1).at (i := k) hkl
       obtain ⟨y, Hy⟩ : ∃ z, Hid (rqAt outs k = z) := ⟨_, rfl⟩
       have hpk := pairN_take hkl Hy.out
       rw [Hy.out] at g0 g1 g2
       obtain ⟨yt, ya, ym⟩ := y
       simp only at g0 g1 g2 hpk
       have j0 : (0 : Int) ≤ (k : Int) := by omega
       have j1 : (k : Int) < (m3 : Int) := by omega
       have hbl : b < wr.heap.size := World.block_lt_of_cell? wr _ g0
       have Hpk := Lib.hid hpk
       have Hkl := Lib.hid hkl
       have HS9 := Lib.hid (HS.out.later (below_box wr (.cells #[.int .i64 yt, .int .i64 ya, .int .i64 ym] 69)))
       have HX9 := Lib.hid (Whole.made wr 69 #[.int .i64 yt, .int .i64 ya, .int .i64 ym])
       have u0 := HX9.out.cell 0; have u2 := HX9.out.cell 2
       have x4 : (wr.alloc (.cells #[.int .i64 yt, .int .i64 ya, .int .i64 ym] 69)).cell? ⟨w.heap.size + 1 + 1, 0, none⟩ = some (.func (.func 31) #[] #[.pointer (some ⟨w.heap.size + 1, 0, none⟩)]) := HS9.out.2.1.2.1.cell 0
       have hz5 : w.heap.size + 3 < wr.heap.size := HS.out.2.1.2.2.lt
       have hl5 : wr.heap.size < (wr.alloc (.cells #[.int .i64 yt, .int .i64 ya, .int .i64 ym] 69)).heap.size := HX9.out.lt
       have HRM : Hid (((([((m2 : Nat) : Int)] ++ pairN line) ++ [((m3 : Nat) : Int)]) ++ pairN (outs.take k)).length + [yt, ym].length ≤ T) := by
        show _ ≤ _
        have h1 := HT2.out; have h2 := Hkl.out; have h4 : m2 = line.length := Hm2.out; have h5 : m3 = outs.length := Hm3.out
        simp only [List.length_append, List.length_cons, List.length_nil, pairN_len, List.length_take]
        omega
       clear hkl hpk
       go_wp2_with fail
       refine (kput_at w cs z2 ((([((m2 : Nat) : Int)] ++ pairN line) ++ [((m3 : Nat) : Int)]) ++ pairN (outs.take k)) [yt, ym] T Hlz.out HRM.out _ 2 rfl _ (HS9.out.later (below_box _ _)) (by simp; omega) (Whole.madeAt _ _ _ _ (by simp))).mono ?_
       rintro e w9 ⟨rfl, hS9⟩
       rw [List.append_assoc, ← Hpk.out] at hS9
       have HN := Lib.hid hS9
       clear hS9 g0 g1 g2 u0 u2 x4 hz5 hl5
       go_wp2_with fail
       go_roundw
       case rel => exact ⟨k + 1, by omega, by go_num, HN.out⟩
       case measure => simp [intOf]; omega
     · obtain rfl : m3 = k := by omega
       have HS6 : Hid (PutSt w cs wr (z2 ++ bytesN (((([((m2 : Nat) : Int)] ++ pairN line) ++ [((m3 : Nat) : Int)]) ++ pairN outs).map u64n))) := by
        have h := HS.out
        rw [List.take_of_length_le (show outs.length ≤ m3 from Nat.le_of_eq Hm3.out.symm)] at h
        exact h
       clear HS
       obtain ⟨⟨e0, e1, e2, e3⟩, ⟨e4, e5, e6, e7⟩, e8, e9, e10, e11⟩ := HBC.out _ HS6.out.2.1.1
       try simp only at e0 e1 e2 e3 e4 e5 e6 e7 e8 e9 e10 e11
       have x4 : wr.cell? ⟨w.heap.size + 1 + 1, 0, none⟩ = some (.func (.func 31) #[] #[.pointer (some ⟨w.heap.size + 1, 0, none⟩)]) := HS6.out.2.1.2.1.cell 0
       have x5 : wr.cell? ⟨w.heap.size + 1 + 1 + 1, 0, none⟩ = some (.func (.func 33) #[] #[.pointer (some ⟨w.heap.size + 2, 0, none⟩)]) := HS6.out.2.1.2.2.cell 0
       have hz5 : w.heap.size + 3 < wr.heap.size := HS6.out.2.1.2.2.lt
       obtain ⟨wl, hwl⟩ : ∃ z, z = wr := ⟨_, rfl⟩
       subst hwl
       go_wp2_with fail
       refine (kput_at w cs z2 ((([((m2 : Nat) : Int)] ++ pairN line) ++ [((m3 : Nat) : Int)]) ++ pairN outs) [asks] T Hlz.out (by have h1 := HT2.out; have h2 : m2 = line.length := Hm2.out; have h3 : m3 = outs.length := Hm3.out; simp only [List.length_append, List.length_cons, List.length_nil, pairN_len]; omega) _ 1 rfl _ (HS6.out.later (below_box _ _)) (by omega) (Whole.madeAt _ _ _ _ (by simp))).mono ?_
       rintro e w7 ⟨rfl, hS⟩
       have HS7 := Lib.hid hS
       clear hS HS6 e0 e1 e2 e3 e4 e5 e6 e7 e8 e9 e10 e11 x4 x5 hz5
       obtain ⟨⟨e0, e1, e2, e3⟩, ⟨e4, e5, e6, e7⟩, e8, e9, e10, e11⟩ := HBC.out _ HS7.out.2.1.1
       try simp only at e0 e1 e2 e3 e4 e5 e6 e7 e8 e9 e10 e11
       have x4 : w7.cell? ⟨w.heap.size + 1 + 1, 0, none⟩ = some (.func (.func 31) #[] #[.pointer (some ⟨w.heap.size + 1, 0, none⟩)]) := HS7.out.2.1.2.1.cell 0
       have x5 : w7.cell? ⟨w.heap.size + 1 + 1 + 1, 0, none⟩ = some (.func (.func 33) #[] #[.pointer (some ⟨w.heap.size + 2, 0, none⟩)]) := HS7.out.2.1.2.2.cell 0
       have hz5 : w.heap.size + 3 < w7.heap.size := HS7.out.2.1.2.2.lt
       go_wp2_with fail
       go_loopw [79] (fun s79 wr => ∃ k : Nat, k ≤ m4 ∧ s79 = .int .i64 (k : Int) ∧ Hid (PutSt w cs wr (z2 ++ bytesN (((((([((m2 : Nat) : Int)] ++ pairN line) ++ [((m3 : Nat) : Int)]) ++ pairN outs) ++ [asks]) ++ notesN (notes.take k)).map u64n)))) (fun s79 _ => m4 - (intOf s79).toNat)
       case atStart => exact ⟨0, Nat.zero_le _, rfl, by show PutSt _ _ _ _; rw [List.take_zero, show notesN [] = [] from rfl, List.append_nil]; exact HS7.out⟩
       case round =>
        clear HS7 e0 e1 e2 e3 e4 e5 e6 e7 e8 e9 e10 e11 x4 x5 hz5
        obtain ⟨k, hk, rfl, HS⟩ := hrel
        by_cases hkm : k < m4
        · have hkl : k < notes.length := by have h : m4 = notes.length := Hm4.out; omega
          obtain ⟨b, off, rfl, g0⟩ := (HB4.out.later HS.out.1).at (i := k) hkl
          obtain ⟨y, Hy⟩ : ∃ z, Hid (ntAt notes k = z) := ⟨_, rfl⟩
          have hpk := notesN_take hkl Hy.out
          rw [Hy.out] at g0
          obtain ⟨yc, yt, ya, ym, ys, yr, yp⟩ := y
          obtain ⟨t0, t1, t2, t3, t4, t5, t6⟩ := g0
          simp only at t0 t1 t2 t3 t4 t5 t6
          have j0 : (0 : Int) ≤ (k : Int) := by omega
          have j1 : (k : Int) < (m4 : Int) := by omega
          have hbl : b < wr.heap.size := World.block_lt_of_cell? wr _ t0
          have Hpk := Lib.hid hpk
          have Hkl := Lib.hid hkl
          have HS9 := Lib.hid (HS.out.later (below_box wr (.cells (ntCells ⟨yc, yt, ya, ym, ys, yr, yp⟩) 71)))
          have HX9 := Lib.hid (Whole.made wr 71 (ntCells ⟨yc, yt, ya, ym, ys, yr, yp⟩))
          have HRM : Hid (((((([((m2 : Nat) : Int)] ++ pairN line) ++ [((m3 : Nat) : Int)]) ++ pairN outs) ++ [asks]) ++ notesN (notes.take k)).length + 7 ≤ T) := by
           show _ ≤ _
           have h1 := HT2.out; have h2 := Hkl.out; have h3 : m4 = notes.length := Hm4.out; have h4 : m2 = line.length := Hm2.out; have h5 : m3 = outs.length := Hm3.out
           simp only [List.length_append, List.length_cons, List.length_nil, pairN_len, notesN_len, List.length_take]
           omega
          clear hkl hpk
          have hz5 : w.heap.size + 3 < wr.heap.size := HS.out.2.1.2.2.lt
          go_wp2_with fail
          refine (knote_at w cs z2 ((((([((m2 : Nat) : Int)] ++ pairN line) ++ [((m3 : Nat) : Int)]) ++ pairN outs) ++ [asks]) ++ notesN (notes.take k)) ⟨yc, yt, ya, ym, ys, yr, yp⟩ T Hlz.out HRM.out _ HS9.out).mono ?_
          rintro e w9 ⟨rfl, hS9⟩
          rw [List.append_assoc, ← Hpk.out] at hS9
          have HN := Lib.hid hS9
          clear hS9 hz5 t0 t1 t2 t3 t4 t5 t6
          go_wp2_with fail
          go_roundw
          case rel => exact ⟨k + 1, by omega, by go_num, HN.out⟩
          case measure => simp [intOf]; omega
        · obtain rfl : m4 = k := by omega
          have HS8 : Hid (PutSt w cs wr (z2 ++ bytesN (((((([((m2 : Nat) : Int)] ++ pairN line) ++ [((m3 : Nat) : Int)]) ++ pairN outs) ++ [asks]) ++ notesN notes).map u64n))) := by
           have h := HS.out
           rw [List.take_of_length_le (show notes.length ≤ m4 from Nat.le_of_eq Hm4.out.symm)] at h
           exact h
          clear HS
          obtain ⟨⟨e0, e1, e2, e3⟩, ⟨e4, e5, e6, e7⟩, e8, e9, e10, e11⟩ := HBC.out _ HS8.out.2.1.1
          try simp only at e0 e1 e2 e3 e4 e5 e6 e7 e8 e9 e10 e11
          have x4 : wr.cell? ⟨w.heap.size + 1 + 1, 0, none⟩ = some (.func (.func 31) #[] #[.pointer (some ⟨w.heap.size + 1, 0, none⟩)]) := HS8.out.2.1.2.1.cell 0
          have x5 : wr.cell? ⟨w.heap.size + 1 + 1 + 1, 0, none⟩ = some (.func (.func 33) #[] #[.pointer (some ⟨w.heap.size + 2, 0, none⟩)]) := HS8.out.2.1.2.2.cell 0
          have hz5 : w.heap.size + 3 < wr.heap.size := HS8.out.2.1.2.2.lt
          obtain ⟨wl, hwl⟩ : ∃ z, z = wr := ⟨_, rfl⟩
          subst hwl
          have HTA : Hid (2 ≤ (auN ⟨tr, ph, told, use, inc, moved⟩).length) := by show 2 ≤ _; unfold auN; rw [List.length_append]; simp
          go_wp2_with fail
          refine (klook_at w cs z2 ((((([((m2 : Nat) : Int)] ++ pairN line) ++ [((m3 : Nat) : Int)]) ++ pairN outs) ++ [asks]) ++ notesN notes) tr ph T Hlz.out (by have h0 := HTA.out; have h1 := HT2.out; have h2 : m2 = line.length := Hm2.out; have h3 : m3 = outs.length := Hm3.out; have h4 : m4 = notes.length := Hm4.out; simp only [List.length_append, List.length_cons, List.length_nil, pairN_len, notesN_len]; omega) _ HS8.out).mono ?_
          rintro e w10 ⟨rfl, hS⟩
          have HS10 := Lib.hid hS
          clear hS HS8 e0 e1 e2 e3 e4 e5 e6 e7 e8 e9 e10 e11 x4 x5 hz5
          obtain ⟨⟨e0, e1, e2, e3⟩, ⟨e4, e5, e6, e7⟩, e8, e9, e10, e11⟩ := HBC.out _ HS10.out.2.1.1
          try simp only at e0 e1 e2 e3 e4 e5 e6 e7 e8 e9 e10 e11
          have x4 : w10.cell? ⟨w.heap.size + 1 + 1, 0, none⟩ = some (.func (.func 31) #[] #[.pointer (some ⟨w.heap.size + 1, 0, none⟩)]) := HS10.out.2.1.2.1.cell 0
          have x5 : w10.cell? ⟨w.heap.size + 1 + 1 + 1, 0, none⟩ = some (.func (.func 33) #[] #[.pointer (some ⟨w.heap.size + 2, 0, none⟩)]) := HS10.out.2.1.2.2.cell 0
          have hz5 : w.heap.size + 3 < w10.heap.size := HS10.out.2.1.2.2.lt
          obtain ⟨nv, Hnv⟩ : ∃ z, Hid (noneA ⟨tr, ph, told, use, inc, moved⟩ = z) := ⟨_, rfl⟩
          go_wp2_with fail
          refine (knone_calls ⟨tr, ph, told, use, inc, moved⟩ ⟨a5, m5, cp5, a6, m6, cp6, a7, m7, cp7⟩ _ HA.out.1.1 HA.out.2.1.1 HA.out.2.2.1 HBa.out).mono ?_
          rintro e w11 ⟨rfl, hb11⟩
          rw [Hnv.out]
          have HS11 := Lib.hid (HS10.out.later hb11)
          clear hb11 HS10 e0 e1 e2 e3 e4 e5 e6 e7 e8 e9 e10 e11 x4 x5 hz5
          obtain ⟨⟨e0, e1, e2, e3⟩, ⟨e4, e5, e6, e7⟩, e8, e9, e10, e11⟩ := HBC.out _ HS11.out.2.1.1
          try simp only at e0 e1 e2 e3 e4 e5 e6 e7 e8 e9 e10 e11
          have x4 : w11.cell? ⟨w.heap.size + 1 + 1, 0, none⟩ = some (.func (.func 31) #[] #[.pointer (some ⟨w.heap.size + 1, 0, none⟩)]) := HS11.out.2.1.2.1.cell 0
          have x5 : w11.cell? ⟨w.heap.size + 1 + 1 + 1, 0, none⟩ = some (.func (.func 33) #[] #[.pointer (some ⟨w.heap.size + 2, 0, none⟩)]) := HS11.out.2.1.2.2.cell 0
          have hz5 : w.heap.size + 3 < w11.heap.size := HS11.out.2.1.2.2.lt
          cases nv with
          | true =>
            have hau : ⟨tr, ph, told, use, inc, moved⟩ = au0 := of_decide_eq_true Hnv.out
            have HQ : Hid ((((((([((m2 : Nat) : Int)] ++ pairN line) ++ [((m3 : Nat) : Int)]) ++ pairN outs) ++ [asks]) ++ notesN notes) ++ [tr, ph]) = R) := by
             show (((((([((m2 : Nat) : Int)] ++ pairN line) ++ [((m3 : Nat) : Int)]) ++ pairN outs) ++ [asks]) ++ notesN notes) ++ [tr, ph]) = R
             have h := rest_none ⟨clk, rows, line, outs, asks, notes, ⟨tr, ph, told, use, inc, moved⟩⟩ hau
             rw [← HR.out, h]
             simp only [Hm2.out, Hm3.out]
             simp
            have Hau := Lib.hid hau
            clear hau
            simp only
            obtain ⟨hb5, -, lv, hx5, hO5⟩ := HS11.out
            have hz : z2 ++ bytesN (((((((([((m2 : Nat) : Int)] ++ pairN line) ++ [((m3 : Nat) : Int)]) ++ pairN outs) ++ [asks]) ++ notesN notes) ++ [tr, ph])).map u64n) = zs := by
             have h := Hparts.out
             rw [h, ← Hz2.out, ← Hzc.out, List.append_assoc]
             rw [show (((((([((m2 : Nat) : Int)] ++ pairN line) ++ [((m3 : Nat) : Int)]) ++ pairN outs) ++ [asks]) ++ notesN notes) ++ [tr, ph]) = R from HQ.out]
            have hne : zs ≠ [] := by
             rw [← hz, ← Hz2.out, ← Hzc.out]
             intro h
             have := congrArg List.length h
             simp only [List.length_append, bytesN, List.flatMap_cons, List.length_nil] at this
             have := PackMath.num_pos (u64n clk)
             omega
            rw [hz] at hO5
            have hF5 : Fresh w.heap.size 5 w11 lv zs := ⟨(ownB_mono hO5 (by omega)).1, fun e => hne (by
             rcases hO5.1.2 with ⟨_, h0⟩ | ⟨g', cap, cur, h0, _⟩
             · exact List.eq_nil_of_length_eq_zero h0
             · rw [e] at h0; cases h0), hO5.2⟩
            have HF5 := Lib.hid hF5
            have Hb5 := Lib.hid hb5
            have y0 := hx5.cell 0
            clear hx5 hO5 hF5 hb5 hne hz
            go_wp2_with fail
            go_ret
            exact ⟨_, rfl, Hb5.out, HF5.out⟩
          | false =>
            have hau : ⟨tr, ph, told, use, inc, moved⟩ ≠ au0 := of_decide_eq_false Hnv.out
            have HAL : Hid ((auN ⟨tr, ph, told, use, inc, moved⟩).length = 3 + 3 * m5) := by
             show (auN ⟨tr, ph, told, use, inc, moved⟩).length = _
             unfold auN
             rw [if_neg hau, List.length_append, List.length_append, tripN_len]
             have h : m5 = told.length := HA.out.1.1
             rw [← h]
             simp; omega
            have HQ : Hid ((((((((([((m2 : Nat) : Int)] ++ pairN line) ++ [((m3 : Nat) : Int)]) ++ pairN outs) ++ [asks]) ++ notesN notes) ++ [tr, ph]) ++ tripK ⟨tr, ph, told, use, inc, moved⟩ m5) ++ [oneI moved]) = R) := by
             show _ = R
             have h := rest_some ⟨clk, rows, line, outs, asks, notes, ⟨tr, ph, told, use, inc, moved⟩⟩ hau
             rw [← HR.out, h]
             have h5 : m5 = told.length := HA.out.1.1
             simp only [Hm2.out, Hm3.out, h5]
             simp
            have Hau := Lib.hid hau
            clear hau
            have hm5 : m5 ≤ 40 := s5
            simp only
            go_wp2_with fail
            go_loopw [100] (fun s100 wr => ∃ k : Nat, k ≤ m5 ∧ s100 = .int .i64 (k : Int) ∧ Hid (PutSt w cs wr (z2 ++ bytesN (((((((([((m2 : Nat) : Int)] ++ pairN line) ++ [((m3 : Nat) : Int)]) ++ pairN outs) ++ [asks]) ++ notesN notes) ++ [tr, ph]) ++ tripK ⟨tr, ph, told, use, inc, moved⟩ k).map u64n)))) (fun s100 _ => m5 - (intOf s100).toNat)
            case atStart => exact ⟨0, Nat.zero_le _, rfl, by show PutSt _ _ _ _; rw [show tripK ⟨tr, ph, told, use, inc, moved⟩ 0 = [] from rfl, List.append_nil]; exact HS11.out⟩
            case round =>
             clear HS11 e0 e1 e2 e3 e4 e5 e6 e7 e8 e9 e10 e11 x4 x5 hz5
             obtain ⟨k, hk, rfl, HS⟩ := hrel
             by_cases hkm : k < m5
             · have hkl : k < told.length := by have h : m5 = told.length := HA.out.1.1; omega
               obtain ⟨b5, o5, rfl, g0⟩ := (HA.out.1.2.later HS.out.1).at (i := k) hkl
               obtain ⟨tb, Htb⟩ : ∃ z, Hid (told[k]?.getD false = z) := ⟨_, rfl⟩
               obtain ⟨uk, Huk⟩ : ∃ z, Hid (use[k]?.getD 0 = z) := ⟨_, rfl⟩
               obtain ⟨ik, Hik⟩ : ∃ z, Hid (inc[k]?.getD 0 = z) := ⟨_, rfl⟩
               have hpk := tripK_succ ⟨tr, ph, told, use, inc, moved⟩ k
               simp only [Htb.out, Huk.out, Hik.out] at hpk
               rw [Htb.out] at g0
               obtain ⟨ob, Hob⟩ : ∃ z, Hid (oneI tb = z) := ⟨_, rfl⟩
               rw [Hob.out] at hpk
               have j0 : (0 : Int) ≤ (k : Int) := by omega
               have j1 : (k : Int) < (m5 : Int) := by omega
               have hbl : b5 < wr.heap.size := World.block_lt_of_cell? wr _ g0
               have Hpk := Lib.hid hpk
               have HDG : Hid (∀ W, Calls Tryz.prog 37 #[.bool tb] W (fun e w' => e = .returned (.int .i64 ob) ∧ W = w')) := fun W => by
                have h := kdigit_calls tb W
                rw [Hob.out] at h
                exact h
               have HAT : Hid (∀ W, Below w.heap.size w W → Calls Tryz.prog 38 #[.slice a6 m6 cp6, .int .i64 (k : Int)] W (fun e w' => e = .returned (.int .i64 uk) ∧ W = w')) := fun W h => by
                have h2 := kat_calls a6 m6 cp6 use HA.out.2.1.1 k (by omega) W (HA.out.2.1.2.later h)
                rw [Huk.out] at h2
                exact h2
               have HIT : Hid (∀ W, Below w.heap.size w W → Calls Tryz.prog 38 #[.slice a7 m7 cp7, .int .i64 (k : Int)] W (fun e w' => e = .returned (.int .i64 ik) ∧ W = w')) := fun W h => by
                have h2 := kat_calls a7 m7 cp7 inc HA.out.2.2.1 k (by omega) W (HA.out.2.2.2.later h)
                rw [Hik.out] at h2
                exact h2
               have HRM : Hid (((((((([((m2 : Nat) : Int)] ++ pairN line) ++ [((m3 : Nat) : Int)]) ++ pairN outs) ++ [asks]) ++ notesN notes) ++ [tr, ph]) ++ tripK ⟨tr, ph, told, use, inc, moved⟩ k).length + [ob, uk, ik].length ≤ T) := by
                show _ ≤ _
                have h0 := HAL.out; have h1 := HT2.out; have h3 : m4 = notes.length := Hm4.out; have h4 : m2 = line.length := Hm2.out; have h5 : m3 = outs.length := Hm3.out
                simp only [List.length_append, List.length_cons, List.length_nil, pairN_len, notesN_len, tripK_len]
                omega
               clear hkl hpk
               go_wp2_with fail
               refine wp_region_each_at ?hm ?hb (fun a0 d a' w' => ∃ (e0 e1 e2 e3 e4 e5 e6 e7 e8 e9 e10 e11 e12 e13 e14 : Value), a' = putAll a0 [(105, e0), (106, e1), (107, e2), (108, e3), (109, e4), (110, e5), (111, e6), (112, e7), (113, e8), (114, e9), (115, e10), (116, e11), (117, e12), (118, e13), (119, e14)] ∧ Below w.heap.size w w' ∧ (d 0 = true → e0 = (.func (.func 31) #[] #[.pointer (some ⟨w.heap.size + 1, 0, none⟩)])) ∧ (d 1 = true → e1 = (.bool tb)) ∧ (d 2 = true → (e2 = .int .i64 ob)) ∧ (d 3 = true → e3 = (.pointer (some ⟨w.heap.size, 6, none⟩))) ∧ (d 4 = true → e4 = (.pointer (some ⟨w.heap.size, 9, none⟩))) ∧ (d 5 = true → e5 = (.slice a6 m6 cp6)) ∧ (d 6 = true → e6 = (.int .i64 (k : Int))) ∧ (d 7 = true → (d 5 = true ∧ e7 = .int .i64 uk)) ∧ (d 8 = true → e8 = (.pointer (some ⟨w.heap.size, 6, none⟩))) ∧ (d 9 = true → e9 = (.pointer (some ⟨w.heap.size, 10, none⟩))) ∧ (d 10 = true → e10 = (.slice a7 m7 cp7)) ∧ (d 11 = true → e11 = (.int .i64 (k : Int))) ∧ (d 12 = true → (d 10 = true ∧ d 7 = true ∧ e12 = .int .i64 ik)) ∧ (d 13 = true → (d 12 = true ∧ ∃ g, e13 = .slice (some ⟨g, 0, none⟩) 3 3 ∧ (d 14 = false → w.heap.size + 4 ≤ g ∧ Whole w' g 2 #[.int .i64 ob, .int .i64 uk, .int .i64 ik]))) ∧ (d 14 = true → (d 0 = true ∧ d 5 = true ∧ d 7 = true ∧ d 10 = true ∧ d 12 = true ∧ d 13 = true ∧ PutSt w cs w' (z2 ++ bytesN (((((((([((m2 : Nat) : Int)] ++ pairN line) ++ [((m3 : Nat) : Int)]) ++ pairN outs) ++ [asks]) ++ notesN notes) ++ [tr, ph]) ++ tripK ⟨tr, ph, told, use, inc, moved⟩ (k + 1)).map u64n)))) ∧ (d 14 = false → PutSt w cs w' (z2 ++ bytesN (((((((([((m2 : Nat) : Int)] ++ pairN line) ++ [((m3 : Nat) : Int)]) ++ pairN outs) ++ [asks]) ++ notesN notes) ++ [tr, ph]) ++ tripK ⟨tr, ph, told, use, inc, moved⟩ k).map u64n)))) ?h0 ?step ?ends
               case hm => kernel_rfl
               case hb => kernel_rfl
               case h0 =>
                refine ⟨u105, u106, u107, u108, u109, u110, u111, u112, u113, u114, u115, u116, u117, u118, u119, ?_, (HS.out.1).drew, fun h => absurd h (by decide), fun h => absurd h (by decide), fun h => absurd h (by decide), fun h => absurd h (by decide), fun h => absurd h (by decide), fun h => absurd h (by decide), fun h => absurd h (by decide), fun h => absurd h (by decide), fun h => absurd h (by decide), fun h => absurd h (by decide), fun h => absurd h (by decide), fun h => absurd h (by decide), fun h => absurd h (by decide), fun h => absurd h (by decide), fun h => absurd h (by decide), fun _ => HS.out.later (Below.refl _ _).drew⟩
                simp only [putAll, Act.put, qA, qB, qC]
               case step =>
                intro i d a' w' hi hJ hd hk
                obtain ⟨e0, e1, e2, e3, e4, e5, e6, e7, e8, e9, e10, e11, e12, e13, e14, rfl, hC⟩ := hJ
                obtain ⟨hB, hC⟩ := hC
                obtain ⟨c0, hC⟩ := hC
                obtain ⟨c1, hC⟩ := hC
                obtain ⟨c2, hC⟩ := hC
                obtain ⟨c3, hC⟩ := hC
                obtain ⟨c4, hC⟩ := hC
                obtain ⟨c5, hC⟩ := hC
                obtain ⟨c6, hC⟩ := hC
                obtain ⟨c7, hC⟩ := hC
                obtain ⟨c8, hC⟩ := hC
                obtain ⟨c9, hC⟩ := hC
                obtain ⟨c10, hC⟩ := hC
                obtain ⟨c11, hC⟩ := hC
                obtain ⟨c12, hC⟩ := hC
                obtain ⟨c13, hC⟩ := hC
                obtain ⟨c14, hC⟩ := hC
                have kS := hC
                clear hC
                have Xc0 := Lib.hid c0; clear c0
                have Xc1 := Lib.hid c1; clear c1
                have Xc2 := Lib.hid c2; clear c2
                have Xc3 := Lib.hid c3; clear c3
                have Xc4 := Lib.hid c4; clear c4
                have Xc5 := Lib.hid c5; clear c5
                have Xc6 := Lib.hid c6; clear c6
                have Xc7 := Lib.hid c7; clear c7
                have Xc8 := Lib.hid c8; clear c8
                have Xc9 := Lib.hid c9; clear c9
                have Xc10 := Lib.hid c10; clear c10
                have Xc11 := Lib.hid c11; clear c11
                have Xc12 := Lib.hid c12; clear c12
                have Xc13 := Lib.hid c13; clear c13
                have Xc14 := Lib.hid c14; clear c14
                have XkS := Lib.hid kS; clear kS
                match i, hi, hd, hk with
                | 0, _, hd, hk =>
                  have c14 := Xc14.out
                  have kS := XkS.out
                  have hd14 : d 14 = false := (Bool.eq_false_or_eq_true (d 14)).elim (fun h => absurd ((c14 h).1.symm.trans hd) (by decide)) id
                  have hcc : w'.cell? ⟨w.heap.size + 1 + 1, 0, none⟩ = some (.func (.func 31) #[] #[.pointer (some ⟨w.heap.size + 1, 0, none⟩)]) := (kS hd14).2.1.2.1.cell 0
                  clear c14 kS
                  apply wpOp_at
                  case ho => rfl
                  intro K hK
                  simp only [putAll, Act.put, qA, qB, qC]
                  go_simp
                  have c14 := Xc14.out
                  refine hK _ _ ⟨(.func (.func 31) #[] #[.pointer (some ⟨w.heap.size + 1, 0, none⟩)]), e1, e2, e3, e4, e5, e6, e7, e8, e9, e10, e11, e12, e13, e14, ?_, hB, fun _ => rfl, Xc1.out, Xc2.out, Xc3.out, Xc4.out, Xc5.out, Xc6.out, Xc7.out, Xc8.out, Xc9.out, Xc10.out, Xc11.out, Xc12.out, Xc13.out, fun h => absurd ((c14 h).1.symm.trans hd) (by decide), XkS.out⟩
                  simp only [putAll, Act.put, qA, qB, qC]
                  all_goals rfl
                | 1, _, hd, hk =>
                  apply wpOp_at
                  case ho => rfl
                  intro K hK
                  simp only [putAll, Act.put, qA, qB, qC]
                  go_simp
                  refine hK _ _ ⟨e0, (.bool tb), e2, e3, e4, e5, e6, e7, e8, e9, e10, e11, e12, e13, e14, ?_, hB, Xc0.out, fun _ => rfl, Xc2.out, Xc3.out, Xc4.out, Xc5.out, Xc6.out, Xc7.out, Xc8.out, Xc9.out, Xc10.out, Xc11.out, Xc12.out, Xc13.out, Xc14.out, XkS.out⟩
                  simp only [putAll, Act.put, qA, qB, qC]
                  all_goals rfl
                | 2, _, hd, hk =>
                  have h1 : d 1 = true := hk 1 (by decide +kernel)
                  have c1 := Xc1.out
                  obtain rfl := c1 h1
                  clear c1
                  apply wpOp_at
                  case ho => rfl
                  intro K hK
                  simp only [putAll, Act.put, qA, qB, qC]
                  go_simp
                  refine (HDG.out _).mono ?_
                  rintro e w'' ⟨rfl, hw⟩
                  subst hw
                  refine hK _ _ ⟨e0, (.bool tb), .int .i64 ob, e3, e4, e5, e6, e7, e8, e9, e10, e11, e12, e13, e14, ?_, hB, Xc0.out, Xc1.out, fun _ => rfl, Xc3.out, Xc4.out, Xc5.out, Xc6.out, Xc7.out, Xc8.out, Xc9.out, Xc10.out, Xc11.out, Xc12.out, Xc13.out, Xc14.out, XkS.out⟩
                  simp only [putAll, Act.put, qA, qB, qC]
                  all_goals rfl
                | 3, _, hd, hk =>
                  apply wpOp_at
                  case ho => rfl
                  intro K hK
                  simp only [putAll, Act.put, qA, qB, qC]
                  go_simp
                  refine hK _ _ ⟨e0, e1, e2, (.pointer (some ⟨w.heap.size, 6, none⟩)), e4, e5, e6, e7, e8, e9, e10, e11, e12, e13, e14, ?_, hB, Xc0.out, Xc1.out, Xc2.out, fun _ => rfl, Xc4.out, Xc5.out, Xc6.out, Xc7.out, Xc8.out, Xc9.out, Xc10.out, Xc11.out, Xc12.out, Xc13.out, Xc14.out, XkS.out⟩
                  simp only [putAll, Act.put, qA, qB, qC]
                  all_goals rfl
                | 4, _, hd, hk =>
                  have h3 : d 3 = true := hk 3 (by decide +kernel)
                  have c3 := Xc3.out
                  obtain rfl := c3 h3
                  clear c3
                  apply wpOp_at
                  case ho => rfl
                  intro K hK
                  simp only [putAll, Act.put, qA, qB, qC]
                  go_simp
                  refine hK _ _ ⟨e0, e1, e2, (.pointer (some ⟨w.heap.size, 6, none⟩)), (.pointer (some ⟨w.heap.size, 9, none⟩)), e5, e6, e7, e8, e9, e10, e11, e12, e13, e14, ?_, hB, Xc0.out, Xc1.out, Xc2.out, Xc3.out, fun _ => rfl, Xc5.out, Xc6.out, Xc7.out, Xc8.out, Xc9.out, Xc10.out, Xc11.out, Xc12.out, Xc13.out, Xc14.out, XkS.out⟩
                  simp only [putAll, Act.put, qA, qB, qC]
                  all_goals rfl
                | 5, _, hd, hk =>
                  have h4 : d 4 = true := hk 4 (by decide +kernel)
                  have c4 := Xc4.out
                  have c14 := Xc14.out
                  have kS := XkS.out
                  obtain rfl := c4 h4
                  have hd14 : d 14 = false := (Bool.eq_false_or_eq_true (d 14)).elim (fun h => absurd ((c14 h).2.1.symm.trans hd) (by decide)) id
                  have hcc := (HBC.out _ (kS hd14).2.1.1).2.2.2.1
                  clear c4 c14 kS
                  apply wpOp_at
                  case ho => rfl
                  intro K hK
                  simp only [putAll, Act.put, qA, qB, qC]
                  go_simp
                  have c7 := Xc7.out
                  have c14 := Xc14.out
                  refine hK _ _ ⟨e0, e1, e2, e3, (.pointer (some ⟨w.heap.size, 9, none⟩)), (.slice a6 m6 cp6), e6, e7, e8, e9, e10, e11, e12, e13, e14, ?_, hB, Xc0.out, Xc1.out, Xc2.out, Xc3.out, Xc4.out, fun _ => rfl, Xc6.out, fun h => absurd ((c7 h).1.symm.trans hd) (by decide), Xc8.out, Xc9.out, Xc10.out, Xc11.out, Xc12.out, Xc13.out, fun h => absurd ((c14 h).2.1.symm.trans hd) (by decide), XkS.out⟩
                  simp only [putAll, Act.put, qA, qB, qC]
                  all_goals rfl
                | 6, _, hd, hk =>
                  apply wpOp_at
                  case ho => rfl
                  intro K hK
                  simp only [putAll, Act.put, qA, qB, qC]
                  go_simp
                  refine hK _ _ ⟨e0, e1, e2, e3, e4, e5, (.int .i64 (k : Int)), e7, e8, e9, e10, e11, e12, e13, e14, ?_, hB, Xc0.out, Xc1.out, Xc2.out, Xc3.out, Xc4.out, Xc5.out, fun _ => rfl, Xc7.out, Xc8.out, Xc9.out, Xc10.out, Xc11.out, Xc12.out, Xc13.out, Xc14.out, XkS.out⟩
                  simp only [putAll, Act.put, qA, qB, qC]
                  all_goals rfl
                | 7, _, hd, hk =>
                  have h2 : d 2 = true := hk 2 (by decide +kernel)
                  have h5 : d 5 = true := hk 5 (by decide +kernel)
                  have h6 : d 6 = true := hk 6 (by decide +kernel)
                  have c2 := Xc2.out
                  have c5 := Xc5.out
                  have c6 := Xc6.out
                  obtain rfl := c5 h5
                  obtain rfl := c6 h6
                  obtain rfl := c2 h2
                  clear c2 c5 c6
                  apply wpOp_at
                  case ho => rfl
                  intro K hK
                  simp only [putAll, Act.put, qA, qB, qC]
                  go_simp
                  have c12 := Xc12.out
                  have c14 := Xc14.out
                  have kS := XkS.out
                  have hd14 : d 14 = false := (Bool.eq_false_or_eq_true (d 14)).elim (fun h => absurd ((c14 h).2.2.1.symm.trans hd) (by decide)) id
                  refine (HAT.out _ (kS hd14).1).mono ?_
                  rintro e w'' ⟨rfl, hw⟩
                  subst hw
                  refine hK _ _ ⟨e0, e1, .int .i64 ob, e3, e4, (.slice a6 m6 cp6), (.int .i64 (k : Int)), .int .i64 uk, e8, e9, e10, e11, e12, e13, e14, ?_, hB, Xc0.out, Xc1.out, fun _ => rfl, Xc3.out, Xc4.out, Xc5.out, Xc6.out, fun _ => ⟨h5, rfl⟩, Xc8.out, Xc9.out, Xc10.out, Xc11.out, fun h => absurd ((c12 h).2.1.symm.trans hd) (by decide), Xc13.out, fun h => absurd ((c14 h).2.2.1.symm.trans hd) (by decide), kS⟩
                  simp only [putAll, Act.put, qA, qB, qC]
                  all_goals rfl
                | 8, _, hd, hk =>
                  apply wpOp_at
                  case ho => rfl
                  intro K hK
                  simp only [putAll, Act.put, qA, qB, qC]
                  go_simp
                  refine hK _ _ ⟨e0, e1, e2, e3, e4, e5, e6, e7, (.pointer (some ⟨w.heap.size, 6, none⟩)), e9, e10, e11, e12, e13, e14, ?_, hB, Xc0.out, Xc1.out, Xc2.out, Xc3.out, Xc4.out, Xc5.out, Xc6.out, Xc7.out, fun _ => rfl, Xc9.out, Xc10.out, Xc11.out, Xc12.out, Xc13.out, Xc14.out, XkS.out⟩
                  simp only [putAll, Act.put, qA, qB, qC]
                  all_goals rfl
                | 9, _, hd, hk =>
                  have h8 : d 8 = true := hk 8 (by decide +kernel)
                  have c8 := Xc8.out
                  obtain rfl := c8 h8
                  clear c8
                  apply wpOp_at
                  case ho => rfl
                  intro K hK
                  simp only [putAll, Act.put, qA, qB, qC]
                  go_simp
                  refine hK _ _ ⟨e0, e1, e2, e3, e4, e5, e6, e7, (.pointer (some ⟨w.heap.size, 6, none⟩)), (.pointer (some ⟨w.heap.size, 10, none⟩)), e10, e11, e12, e13, e14, ?_, hB, Xc0.out, Xc1.out, Xc2.out, Xc3.out, Xc4.out, Xc5.out, Xc6.out, Xc7.out, Xc8.out, fun _ => rfl, Xc10.out, Xc11.out, Xc12.out, Xc13.out, Xc14.out, XkS.out⟩
                  simp only [putAll, Act.put, qA, qB, qC]
                  all_goals rfl
                | 10, _, hd, hk =>
                  have h9 : d 9 = true := hk 9 (by decide +kernel)
                  have c9 := Xc9.out
                  have c14 := Xc14.out
                  have kS := XkS.out
                  obtain rfl := c9 h9
                  have hd14 : d 14 = false := (Bool.eq_false_or_eq_true (d 14)).elim (fun h => absurd ((c14 h).2.2.2.1.symm.trans hd) (by decide)) id
                  have hcc := (HBC.out _ (kS hd14).2.1.1).2.2.2.2.1
                  clear c9 c14 kS
                  apply wpOp_at
                  case ho => rfl
                  intro K hK
                  simp only [putAll, Act.put, qA, qB, qC]
                  go_simp
                  have c12 := Xc12.out
                  have c14 := Xc14.out
                  refine hK _ _ ⟨e0, e1, e2, e3, e4, e5, e6, e7, e8, (.pointer (some ⟨w.heap.size, 10, none⟩)), (.slice a7 m7 cp7), e11, e12, e13, e14, ?_, hB, Xc0.out, Xc1.out, Xc2.out, Xc3.out, Xc4.out, Xc5.out, Xc6.out, Xc7.out, Xc8.out, Xc9.out, fun _ => rfl, Xc11.out, fun h => absurd ((c12 h).1.symm.trans hd) (by decide), Xc13.out, fun h => absurd ((c14 h).2.2.2.1.symm.trans hd) (by decide), XkS.out⟩
                  simp only [putAll, Act.put, qA, qB, qC]
                  all_goals rfl
                | 11, _, hd, hk =>
                  apply wpOp_at
                  case ho => rfl
                  intro K hK
                  simp only [putAll, Act.put, qA, qB, qC]
                  go_simp
                  refine hK _ _ ⟨e0, e1, e2, e3, e4, e5, e6, e7, e8, e9, e10, (.int .i64 (k : Int)), e12, e13, e14, ?_, hB, Xc0.out, Xc1.out, Xc2.out, Xc3.out, Xc4.out, Xc5.out, Xc6.out, Xc7.out, Xc8.out, Xc9.out, Xc10.out, fun _ => rfl, Xc12.out, Xc13.out, Xc14.out, XkS.out⟩
                  simp only [putAll, Act.put, qA, qB, qC]
                  all_goals rfl
                | 12, _, hd, hk =>
                  have h7 : d 7 = true := hk 7 (by decide +kernel)
                  have h10 : d 10 = true := hk 10 (by decide +kernel)
                  have h11 : d 11 = true := hk 11 (by decide +kernel)
                  have c7 := Xc7.out
                  have c10 := Xc10.out
                  have c11 := Xc11.out
                  obtain rfl := c10 h10
                  obtain rfl := c11 h11
                  obtain ⟨h5, rfl⟩ := c7 h7
                  clear c7 c10 c11
                  apply wpOp_at
                  case ho => rfl
                  intro K hK
                  simp only [putAll, Act.put, qA, qB, qC]
                  go_simp
                  have c13 := Xc13.out
                  have c14 := Xc14.out
                  have kS := XkS.out
                  have hd14 : d 14 = false := (Bool.eq_false_or_eq_true (d 14)).elim (fun h => absurd ((c14 h).2.2.2.2.1.symm.trans hd) (by decide)) id
                  refine (HIT.out _ (kS hd14).1).mono ?_
                  rintro e w'' ⟨rfl, hw⟩
                  subst hw
                  refine hK _ _ ⟨e0, e1, e2, e3, e4, e5, e6, .int .i64 uk, e8, e9, (.slice a7 m7 cp7), (.int .i64 (k : Int)), .int .i64 ik, e13, e14, ?_, hB, Xc0.out, Xc1.out, Xc2.out, Xc3.out, Xc4.out, Xc5.out, Xc6.out, fun _ => ⟨h5, rfl⟩, Xc8.out, Xc9.out, Xc10.out, Xc11.out, fun _ => ⟨h10, h7, rfl⟩, fun h => absurd ((c13 h).1.symm.trans hd) (by decide), fun h => absurd ((c14 h).2.2.2.2.1.symm.trans hd) (by decide), kS⟩
                  simp only [putAll, Act.put, qA, qB, qC]
                  all_goals rfl
                | 13, _, hd, hk =>
                  have h2 : d 2 = true := hk 2 (by decide +kernel)
                  have h7 : d 7 = true := hk 7 (by decide +kernel)
                  have h12 : d 12 = true := hk 12 (by decide +kernel)
                  have c2 := Xc2.out
                  have c7 := Xc7.out
                  have c12 := Xc12.out
                  obtain rfl := c2 h2
                  obtain ⟨h5, rfl⟩ := c7 h7
                  obtain ⟨h10, h7', rfl⟩ := c12 h12
                  clear c2 c7 c12
                  apply wpOp_at
                  case ho => rfl
                  intro K hK
                  simp only [putAll, Act.put, qA, qB, qC]
                  go_simp
                  have c14 := Xc14.out
                  have kS := XkS.out
                  have hd14 : d 14 = false := (Bool.eq_false_or_eq_true (d 14)).elim (fun h => absurd ((c14 h).2.2.2.2.2.1.symm.trans hd) (by decide)) id
                  have hb := below_box w' (.cells #[.int .i64 ob, .int .i64 uk, .int .i64 ik] 2)
                  have hMb := Whole.made w' 2 #[.int .i64 ob, .int .i64 uk, .int .i64 ik]
                  have hs4 : w.heap.size + 4 ≤ w'.heap.size := (kS hd14).2.1.2.2.lt
                  have hSb := (kS hd14).later hb
                  refine hK _ _ ⟨e0, e1, .int .i64 ob, e3, e4, e5, e6, .int .i64 uk, e8, e9, e10, e11, .int .i64 ik, .slice (some ⟨w'.heap.size, 0, none⟩) 3 3, e14, ?_, hB.trans (hb.mono hB.size), Xc0.out, Xc1.out, fun _ => rfl, Xc3.out, Xc4.out, Xc5.out, Xc6.out, fun _ => ⟨h5, rfl⟩, Xc8.out, Xc9.out, Xc10.out, Xc11.out, fun _ => ⟨h10, h7', rfl⟩, fun _ => ⟨h12, _, rfl, fun _ => ⟨hs4, hMb⟩⟩, fun h => absurd ((c14 h).2.2.2.2.2.1.symm.trans hd) (by decide), fun _ => hSb⟩
                  simp only [putAll, Act.put, qA, qB, qC]
                  all_goals rfl
                | 14, _, hd, hk =>
                  have h0 : d 0 = true := hk 0 (by decide +kernel)
                  have h12 : d 12 = true := hk 12 (by decide +kernel)
                  have h13 : d 13 = true := hk 13 (by decide +kernel)
                  have c0 := Xc0.out
                  have c7 := Xc7.out
                  have c12 := Xc12.out
                  have c13 := Xc13.out
                  obtain rfl := c0 h0
                  obtain ⟨h10, h7, rfl⟩ := c12 h12
                  obtain ⟨h5, rfl⟩ := c7 h7
                  obtain ⟨-, gv, rfl, hgv⟩ := c13 h13
                  obtain ⟨hg4, hMg⟩ := hgv hd
                  clear c0 c7 c12 c13
                  apply wpOp_at
                  case ho => rfl
                  intro K hK
                  simp only [putAll, Act.put, qA, qB, qC]
                  go_simp
                  have kS := XkS.out
                  refine (kput_at w cs z2 ((((((([((m2 : Nat) : Int)] ++ pairN line) ++ [((m3 : Nat) : Int)]) ++ pairN outs) ++ [asks]) ++ notesN notes) ++ [tr, ph]) ++ tripK ⟨tr, ph, told, use, inc, moved⟩ k) [ob, uk, ik] T Hlz.out HRM.out gv 3 rfl _ (kS hd) hg4 hMg).mono ?_
                  rintro e w'' ⟨rfl, hS9⟩
                  rw [List.append_assoc, ← Hpk.out] at hS9
                  refine hK _ _ ⟨(.func (.func 31) #[] #[.pointer (some ⟨w.heap.size + 1, 0, none⟩)]), e1, e2, e3, e4, e5, e6, .int .i64 uk, e8, e9, e10, e11, .int .i64 ik, .slice (some ⟨gv, 0, none⟩) 3 3, .tuple #[], ?_, hS9.1, Xc0.out, Xc1.out, Xc2.out, Xc3.out, Xc4.out, Xc5.out, Xc6.out, fun _ => ⟨h5, rfl⟩, Xc8.out, Xc9.out, Xc10.out, Xc11.out, fun _ => ⟨h10, h7, rfl⟩, fun _ => ⟨h12, gv, rfl, fun h => Bool.noConfusion (show true = false from h)⟩, fun _ => ⟨h0, h5, h7, h10, h12, h13, hS9⟩, fun h => Bool.noConfusion (show true = false from h)⟩
                  simp only [putAll, Act.put, qA, qB, qC]
                  all_goals rfl
                | k + 15, hi, _, _ => exact absurd hi (by simp)
               case ends =>
                intro d a' w' hJ hall
                obtain ⟨e0, e1, e2, e3, e4, e5, e6, e7, e8, e9, e10, e11, e12, e13, e14, rfl, hC⟩ := hJ
                obtain ⟨hB, hC⟩ := hC
                obtain ⟨c0, hC⟩ := hC
                obtain ⟨c1, hC⟩ := hC
                obtain ⟨c2, hC⟩ := hC
                obtain ⟨c3, hC⟩ := hC
                obtain ⟨c4, hC⟩ := hC
                obtain ⟨c5, hC⟩ := hC
                obtain ⟨c6, hC⟩ := hC
                obtain ⟨c7, hC⟩ := hC
                obtain ⟨c8, hC⟩ := hC
                obtain ⟨c9, hC⟩ := hC
                obtain ⟨c10, hC⟩ := hC
                obtain ⟨c11, hC⟩ := hC
                obtain ⟨c12, hC⟩ := hC
                obtain ⟨c13, hC⟩ := hC
                obtain ⟨c14, hC⟩ := hC
                have kS := hC
                clear hC
                have HN := Lib.hid (c14 (hall 14 (by decide +kernel))).2.2.2.2.2.2
                clear c0 c1 c2 c3 c4 c5 c6 c7 c8 c9 c10 c11 c12 c13 c14 kS hall hB g0
                simp only [putAll, Act.put, qA, qB, qC]
                go_wp2_with fail
                go_roundw
                case rel => exact ⟨k + 1, by omega, by go_num, HN.out⟩
                case measure => simp [intOf]; omega
             · obtain rfl : m5 = k := by omega
               have HS12 := Lib.hid HS.out
               clear HS
               obtain ⟨wl, hwl⟩ : ∃ z, z = wr := ⟨_, rfl⟩
               subst hwl
               obtain ⟨om, Hom⟩ : ∃ z, Hid (oneI moved = z) := ⟨_, rfl⟩
               rw [Hom.out] at HQ
               have HDG : Hid (∀ W, Calls Tryz.prog 37 #[.bool moved] W (fun e w' => e = .returned (.int .i64 om) ∧ W = w')) := fun W => by
                have h := kdigit_calls moved W
                rw [Hom.out] at h
                exact h
               have HRM : Hid (((((((([((m2 : Nat) : Int)] ++ pairN line) ++ [((m3 : Nat) : Int)]) ++ pairN outs) ++ [asks]) ++ notesN notes) ++ [tr, ph]) ++ tripK ⟨tr, ph, told, use, inc, moved⟩ m5).length + [om].length ≤ T) := by
                show _ ≤ _
                have h0 := HAL.out; have h1 := HT2.out; have h3 : m4 = notes.length := Hm4.out; have h4 : m2 = line.length := Hm2.out; have h5 : m3 = outs.length := Hm3.out
                simp only [List.length_append, List.length_cons, List.length_nil, pairN_len, notesN_len, tripK_len]
                omega
               go_wp2_with fail
               refine wp_region_each_at ?hm ?hb (fun a0 d a' w' => ∃ (e0 e1 e2 e3 e4 e5 e6 : Value), a' = putAll a0 [(121, e0), (122, e1), (123, e2), (124, e3), (125, e4), (126, e5), (127, e6)] ∧ Below w.heap.size w w' ∧ (d 0 = true → e0 = (.func (.func 31) #[] #[.pointer (some ⟨w.heap.size + 1, 0, none⟩)])) ∧ (d 1 = true → e1 = (.pointer (some ⟨w.heap.size, 6, none⟩))) ∧ (d 2 = true → e2 = (.pointer (some ⟨w.heap.size, 11, none⟩))) ∧ (d 3 = true → e3 = (.bool moved)) ∧ (d 4 = true → (d 3 = true ∧ e4 = .int .i64 om)) ∧ (d 5 = true → (d 4 = true ∧ ∃ g, e5 = .slice (some ⟨g, 0, none⟩) 1 1 ∧ (d 6 = false → w.heap.size + 4 ≤ g ∧ Whole w' g 2 #[.int .i64 om]))) ∧ (d 6 = true → (d 0 = true ∧ d 3 = true ∧ d 4 = true ∧ d 5 = true ∧ PutSt w cs w' (z2 ++ bytesN ((((((((([((m2 : Nat) : Int)] ++ pairN line) ++ [((m3 : Nat) : Int)]) ++ pairN outs) ++ [asks]) ++ notesN notes) ++ [tr, ph]) ++ tripK ⟨tr, ph, told, use, inc, moved⟩ m5) ++ [om]).map u64n)))) ∧ (d 6 = false → PutSt w cs w' (z2 ++ bytesN ((((((((([((m2 : Nat) : Int)] ++ pairN line) ++ [((m3 : Nat) : Int)]) ++ pairN outs) ++ [asks]) ++ notesN notes) ++ [tr, ph]) ++ tripK ⟨tr, ph, told, use, inc, moved⟩ m5)).map u64n)))) ?h0 ?step ?ends
               case hm => kernel_rfl
               case hb => kernel_rfl
               case h0 =>
                refine ⟨undef, undef, undef, undef, undef, undef, undef, ?_, (HS12.out.1).drew, fun h => absurd h (by decide), fun h => absurd h (by decide), fun h => absurd h (by decide), fun h => absurd h (by decide), fun h => absurd h (by decide), fun h => absurd h (by decide), fun h => absurd h (by decide), fun _ => HS12.out.later (Below.refl _ _).drew⟩
                simp only [putAll, Act.put, qA, qB, qC]
               case step =>
                intro i d a' w' hi hJ hd hk
                obtain ⟨e0, e1, e2, e3, e4, e5, e6, rfl, hC⟩ := hJ
                obtain ⟨hB, hC⟩ := hC
                obtain ⟨c0, hC⟩ := hC
                obtain ⟨c1, hC⟩ := hC
                obtain ⟨c2, hC⟩ := hC
                obtain ⟨c3, hC⟩ := hC
                obtain ⟨c4, hC⟩ := hC
                obtain ⟨c5, hC⟩ := hC
                obtain ⟨c6, hC⟩ := hC
                have kS := hC
                clear hC
                have Xc0 := Lib.hid c0; clear c0
                have Xc1 := Lib.hid c1; clear c1
                have Xc2 := Lib.hid c2; clear c2
                have Xc3 := Lib.hid c3; clear c3
                have Xc4 := Lib.hid c4; clear c4
                have Xc5 := Lib.hid c5; clear c5
                have Xc6 := Lib.hid c6; clear c6
                have XkS := Lib.hid kS; clear kS
                match i, hi, hd, hk with
                | 0, _, hd, hk =>
                  have c6 := Xc6.out
                  have kS := XkS.out
                  have hd6 : d 6 = false := (Bool.eq_false_or_eq_true (d 6)).elim (fun h => absurd ((c6 h).1.symm.trans hd) (by decide)) id
                  have hcc : w'.cell? ⟨w.heap.size + 1 + 1, 0, none⟩ = some (.func (.func 31) #[] #[.pointer (some ⟨w.heap.size + 1, 0, none⟩)]) := (kS hd6).2.1.2.1.cell 0
                  clear c6 kS
                  apply wpOp_at
                  case ho => rfl
                  intro K hK
                  simp only [putAll, Act.put, qA, qB, qC]
                  go_simp
                  have c6 := Xc6.out
                  refine hK _ _ ⟨(.func (.func 31) #[] #[.pointer (some ⟨w.heap.size + 1, 0, none⟩)]), e1, e2, e3, e4, e5, e6, ?_, hB, fun _ => rfl, Xc1.out, Xc2.out, Xc3.out, Xc4.out, Xc5.out, fun h => absurd ((c6 h).1.symm.trans hd) (by decide), XkS.out⟩
                  simp only [putAll, Act.put, qA, qB, qC]
                  all_goals rfl
                | 1, _, hd, hk =>
                  apply wpOp_at
                  case ho => rfl
                  intro K hK
                  simp only [putAll, Act.put, qA, qB, qC]
                  go_simp
                  refine hK _ _ ⟨e0, (.pointer (some ⟨w.heap.size, 6, none⟩)), e2, e3, e4, e5, e6, ?_, hB, Xc0.out, fun _ => rfl, Xc2.out, Xc3.out, Xc4.out, Xc5.out, Xc6.out, XkS.out⟩
                  simp only [putAll, Act.put, qA, qB, qC]
                  all_goals rfl
                | 2, _, hd, hk =>
                  have h1 : d 1 = true := hk 1 (by decide +kernel)
                  have c1 := Xc1.out
                  obtain rfl := c1 h1
                  clear c1
                  apply wpOp_at
                  case ho => rfl
                  intro K hK
                  simp only [putAll, Act.put, qA, qB, qC]
                  go_simp
                  refine hK _ _ ⟨e0, (.pointer (some ⟨w.heap.size, 6, none⟩)), (.pointer (some ⟨w.heap.size, 11, none⟩)), e3, e4, e5, e6, ?_, hB, Xc0.out, Xc1.out, fun _ => rfl, Xc3.out, Xc4.out, Xc5.out, Xc6.out, XkS.out⟩
                  simp only [putAll, Act.put, qA, qB, qC]
                  all_goals rfl
                | 3, _, hd, hk =>
                  have h2 : d 2 = true := hk 2 (by decide +kernel)
                  have c2 := Xc2.out
                  have c6 := Xc6.out
                  have kS := XkS.out
                  obtain rfl := c2 h2
                  have hd6 : d 6 = false := (Bool.eq_false_or_eq_true (d 6)).elim (fun h => absurd ((c6 h).2.1.symm.trans hd) (by decide)) id
                  have hcc := (HBC.out _ (kS hd6).2.1.1).2.2.2.2.2
                  clear c2 c6 kS
                  apply wpOp_at
                  case ho => rfl
                  intro K hK
                  simp only [putAll, Act.put, qA, qB, qC]
                  go_simp
                  have c4 := Xc4.out
                  have c6 := Xc6.out
                  refine hK _ _ ⟨e0, e1, (.pointer (some ⟨w.heap.size, 11, none⟩)), (.bool moved), e4, e5, e6, ?_, hB, Xc0.out, Xc1.out, Xc2.out, fun _ => rfl, fun h => absurd ((c4 h).1.symm.trans hd) (by decide), Xc5.out, fun h => absurd ((c6 h).2.1.symm.trans hd) (by decide), XkS.out⟩
                  simp only [putAll, Act.put, qA, qB, qC]
                  all_goals rfl
                | 4, _, hd, hk =>
                  have h3 : d 3 = true := hk 3 (by decide +kernel)
                  have c3 := Xc3.out
                  obtain rfl := c3 h3
                  clear c3
                  apply wpOp_at
                  case ho => rfl
                  intro K hK
                  simp only [putAll, Act.put, qA, qB, qC]
                  go_simp
                  have c5 := Xc5.out
                  have c6 := Xc6.out
                  refine (HDG.out _).mono ?_
                  rintro e w'' ⟨rfl, hw⟩
                  subst hw
                  refine hK _ _ ⟨e0, e1, e2, (.bool moved), .int .i64 om, e5, e6, ?_, hB, Xc0.out, Xc1.out, Xc2.out, Xc3.out, fun _ => ⟨h3, rfl⟩, fun h => absurd ((c5 h).1.symm.trans hd) (by decide), fun h => absurd ((c6 h).2.2.1.symm.trans hd) (by decide), XkS.out⟩
                  simp only [putAll, Act.put, qA, qB, qC]
                  all_goals rfl
                | 5, _, hd, hk =>
                  have h4 : d 4 = true := hk 4 (by decide +kernel)
                  have c4 := Xc4.out
                  obtain ⟨h3, rfl⟩ := c4 h4
                  clear c4
                  apply wpOp_at
                  case ho => rfl
                  intro K hK
                  simp only [putAll, Act.put, qA, qB, qC]
                  go_simp
                  have c6 := Xc6.out
                  have kS := XkS.out
                  have hd6 : d 6 = false := (Bool.eq_false_or_eq_true (d 6)).elim (fun h => absurd ((c6 h).2.2.2.1.symm.trans hd) (by decide)) id
                  have hb := below_box w' (.cells #[.int .i64 om] 2)
                  have hMb := Whole.made w' 2 #[.int .i64 om]
                  have hs4 : w.heap.size + 4 ≤ w'.heap.size := (kS hd6).2.1.2.2.lt
                  have hSb := (kS hd6).later hb
                  refine hK _ _ ⟨e0, e1, e2, e3, .int .i64 om, .slice (some ⟨w'.heap.size, 0, none⟩) 1 1, e6, ?_, hB.trans (hb.mono hB.size), Xc0.out, Xc1.out, Xc2.out, Xc3.out, fun _ => ⟨h3, rfl⟩, fun _ => ⟨h4, _, rfl, fun _ => ⟨hs4, hMb⟩⟩, fun h => absurd ((c6 h).2.2.2.1.symm.trans hd) (by decide), fun _ => hSb⟩
                  simp only [putAll, Act.put, qA, qB, qC]
                  all_goals rfl
                | 6, _, hd, hk =>
                  have h0 : d 0 = true := hk 0 (by decide +kernel)
                  have h4 : d 4 = true := hk 4 (by decide +kernel)
                  have h5 : d 5 = true := hk 5 (by decide +kernel)
                  have c0 := Xc0.out
                  have c4 := Xc4.out
                  have c5 := Xc5.out
                  obtain rfl := c0 h0
                  obtain ⟨h3, rfl⟩ := c4 h4
                  obtain ⟨-, gv, rfl, hgv⟩ := c5 h5
                  obtain ⟨hg4, hMg⟩ := hgv hd
                  clear c0 c4 c5
                  apply wpOp_at
                  case ho => rfl
                  intro K hK
                  simp only [putAll, Act.put, qA, qB, qC]
                  go_simp
                  have kS := XkS.out
                  refine (kput_at w cs z2 ((((((([((m2 : Nat) : Int)] ++ pairN line) ++ [((m3 : Nat) : Int)]) ++ pairN outs) ++ [asks]) ++ notesN notes) ++ [tr, ph]) ++ tripK ⟨tr, ph, told, use, inc, moved⟩ m5) [om] T Hlz.out HRM.out gv 1 rfl _ (kS hd) hg4 hMg).mono ?_
                  rintro e w'' ⟨rfl, hS9⟩
                  refine hK _ _ ⟨(.func (.func 31) #[] #[.pointer (some ⟨w.heap.size + 1, 0, none⟩)]), e1, e2, e3, .int .i64 om, .slice (some ⟨gv, 0, none⟩) 1 1, .tuple #[], ?_, hS9.1, Xc0.out, Xc1.out, Xc2.out, Xc3.out, fun _ => ⟨h3, rfl⟩, fun _ => ⟨h4, gv, rfl, fun h => Bool.noConfusion (show true = false from h)⟩, fun _ => ⟨h0, h3, h4, h5, hS9⟩, fun h => Bool.noConfusion (show true = false from h)⟩
                  simp only [putAll, Act.put, qA, qB, qC]
                  all_goals rfl
                | k + 7, hi, _, _ => exact absurd hi (by simp)
               case ends =>
                intro d a' w13 hJ hall
                obtain ⟨e0, e1, e2, e3, e4, e5, e6, rfl, hC⟩ := hJ
                obtain ⟨hB, hC⟩ := hC
                obtain ⟨c0, hC⟩ := hC
                obtain ⟨c1, hC⟩ := hC
                obtain ⟨c2, hC⟩ := hC
                obtain ⟨c3, hC⟩ := hC
                obtain ⟨c4, hC⟩ := hC
                obtain ⟨c5, hC⟩ := hC
                obtain ⟨c6, hC⟩ := hC
                have kS := hC
                clear hC
                have HS13 := Lib.hid (c6 (hall 6 (by decide +kernel))).2.2.2.2
                clear c0 c1 c2 c3 c4 c5 c6 kS hall hB
                simp only [putAll, Act.put, qA, qB, qC]
                obtain ⟨hb5, -, lv, hx5, hO5⟩ := HS13.out
                have hz : z2 ++ bytesN (((((((((([((m2 : Nat) : Int)] ++ pairN line) ++ [((m3 : Nat) : Int)]) ++ pairN outs) ++ [asks]) ++ notesN notes) ++ [tr, ph]) ++ tripK ⟨tr, ph, told, use, inc, moved⟩ m5) ++ [om])).map u64n) = zs := by
                 have h := Hparts.out
                 rw [h, ← Hz2.out, ← Hzc.out, List.append_assoc]
                 rw [show (((((((([((m2 : Nat) : Int)] ++ pairN line) ++ [((m3 : Nat) : Int)]) ++ pairN outs) ++ [asks]) ++ notesN notes) ++ [tr, ph]) ++ tripK ⟨tr, ph, told, use, inc, moved⟩ m5) ++ [om]) = R from HQ.out]
                have hne : zs ≠ [] := by
                 rw [← hz, ← Hz2.out, ← Hzc.out]
                 intro h
                 have := congrArg List.length h
                 simp only [List.length_append, bytesN, List.flatMap_cons, List.length_nil] at this
                 have := PackMath.num_pos (u64n clk)
                 omega
                rw [hz] at hO5
                have hF5 : Fresh w.heap.size 5 w13 lv zs := ⟨(ownB_mono hO5 (by omega)).1, fun e => hne (by
                 rcases hO5.1.2 with ⟨_, h0⟩ | ⟨g', cap, cur, h0, _⟩
                 · exact List.eq_nil_of_length_eq_zero h0
                 · rw [e] at h0; cases h0), hO5.2⟩
                have HF5 := Lib.hid hF5
                have Hb5 := Lib.hid hb5
                have y0 := hx5.cell 0
                clear hx5 hO5 hF5 hb5 hne hz
                go_wp2_with fail
                go_ret
                exact ⟨_, rfl, Hb5.out, HF5.out⟩
end Go.Proofs.YtnkgakhnlbifdaaGreat
