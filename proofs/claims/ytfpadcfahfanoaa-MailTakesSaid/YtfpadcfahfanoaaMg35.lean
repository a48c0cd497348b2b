/- Merged texts: MailPut, RefMailSome, RefStampMay. No law is proved here. -/
import Derived.Test.YtfpadcfahfanoaaMg34
import Derived.Test.YtfpadcfahfanoaaPaintStand
import Derived.Test.YtfpadcfahfanoaaMg28
import Derived.Test.YtfpadcfahfanoaaPackRefTake
import Derived.Test.YtfpadcfahfanoaaMg13
import Derived.Test.YtfpadcfahfanoaaMg9
import Derived.LoopTactic
import Derived.Test.YtfpadcfahfanoaaMg6
import Derived.WalkLawsBesides
import Derived.Deep.QuietTactic
import Derived.BigQuiet
/- Package mail, walked: Put. No law is proved here. -/
namespace Go.Proofs.Ytfpadcfahfanoaa
open Go.RowKit

theorem ownB_mono {B B' : Nat} {w : World} {v : Value} {zs : List Int} (h : OwnB B w v zs) (hB : B' ≤ B) : OwnB B' w v zs :=
  ⟨⟨h.1.1, h.1.2.imp id fun ⟨g, cap, cur, h1, h2, h3⟩ => ⟨g, cap, cur, h1, Nat.le_trans hB h2, h3⟩⟩, h.2⟩
set_option maxRecDepth 100000 in
set_option maxHeartbeats 8000000 in
theorem mlook_calls (w0 : World) (cs : Array Value) (t p : Int) (zs : List Int) (hroom : zs.length + 10 * 2 ≤ 140737488355000) (w : World) (hS : PutSt w0 cs w zs) :
    Calls Try.prog 25 #[.agg #[.int .i64 t, .int .i64 p], .pointer (some ⟨w0.heap.size + 2, 0, none⟩)] w (fun e w' => e = .returned (.tuple #[]) ∧ PutSt w0 cs w' (zs ++ bytesN ([t, p].map u64n))) := by
  have HX := Lib.hid (Whole.made w 32 #[.int .i64 t, .int .i64 p])
  have Hb0 := Lib.hid (below_box w (.cells #[.int .i64 t, .int .i64 p] 32))
  have HS1 := Lib.hid (hS.later Hb0.out)
  have hsz := hS.2.2.1.lt
  have Hsz := Lib.hid hsz
  clear hS hsz
  have c0 := HX.out.cell 0
  have c1 := HX.out.cell 1
  have c2 := HS1.out.2.2.1.cell 0

  have hcall := fun W g (h1 : PutSt w0 cs W zs) (h2 : w0.heap.size + 3 ≤ g) h3 => mnums_calls w0 cs g 0 2 [t, p] zs rfl rfl hroom W h1 h2 h3
  have Hcall := Lib.hid hcall
  clear hcall
  go_enter Try.func25, Try.ntmps25
  go_wp2_with fail
  refine (Hcall.out _ _ (HS1.out.later (below_box _ _)) (by simp; have := Hsz.out; omega) (by have h := Whole.made2 w (.cells #[.int .i64 t, .int .i64 p] 32) 2 #[.int .i64 t, .int .i64 p]; exact h)).mono ?_
  rintro e w2 ⟨rfl, h2⟩
  have H2 := Lib.hid h2
  clear h2 c0 c1 c2
  go_wp2_with fail
  first | go_end0 | refine bodyPost_ret (results_none rfl _ _ _) rfl ?_
  exact ⟨rfl, H2.out⟩

set_option maxRecDepth 100000 in
set_option maxHeartbeats 8000000 in
theorem mPut_calls (x : Ml) (a1 : Option Addr) (m1 c1 : Nat) (a2 : Option Addr) (m2 c2 : Nat) (w : World) (hM : MailIn w a1 m1 c1 a2 m2 c2 x) (hroom : 10 * (allN x).length ≤ 140737488350000) :
    Calls Try.prog 11 #[mlV x (.slice a1 m1 c1) (.slice a2 m2 c2)] w (Made w (mailBytes x)) := by
  have hmf : ∀ (fn : Fn) (first cap : Array Value) (w : World), (Instr.makeFunc fn first cap).run Try.prog w = .ok (.func fn first cap) w := fun _ _ _ _ => rfl
  obtain ⟨hm1, hB, hm2, hE⟩ := hM
  have hbig2 : m2 ≤ 9223372036854775807 := by rw [hm2]; exact hE.1
  have HB := Lib.hid hB; clear hB
  have HE := Lib.hid hE; clear hE
  have Hm1 := Lib.hid hm1; clear hm1
  have Hm2 := Lib.hid hm2; clear hm2
  have hr : (headN x).length + ((flatR x.rows).length + (tailN x).length) ≤ 14073748835000 := by
    unfold allN at hroom
    rw [List.length_append, List.length_append] at hroom
    omega
  rw [tailN_len, show (headN x).length = 3 from rfl] at hr
  have Hr := Lib.hid hr; clear hr hroom
  obtain ⟨zs, Hzs⟩ : ∃ z, Hid (mailBytes x = z) := ⟨_, rfl⟩
  rw [Hzs.out]
  obtain ⟨fr, tg, clk, rows, t, a, v, asks, try_, ph, echo⟩ := x
  go_enter Try.func11, Try.ntmps11
  go_wp2_with fail
  have HS0 : Hid (PutSt w (mlCells ⟨fr, tg, clk, rows, t, a, v, asks, try_, ph, echo⟩ (.slice a1 m1 c1) (.slice a2 m2 c2)) (((w.alloc (.cells (mlCells ⟨fr, tg, clk, rows, t, a, v, asks, try_, ph, echo⟩ (.slice a1 m1 c1) (.slice a2 m2 c2)) 35)).alloc (.cells #[.slice none 0 0] 24)).alloc (.cells #[.func (.func 23) #[] #[.pointer (some ⟨w.heap.size + 1, 0, none⟩)]] 62)) []) :=
    ⟨(below_two w _ _).alloc (by simp; omega) _, ((Whole.made w _ _).alloc _).alloc _, Whole.madeAt _ _ _ _ (by simp), _, (Whole.made2 w _ _ _).alloc _, ownB_nil _ _⟩
  refine (mnums_calls w _ _ 0 3 [fr, tg, clk] [] rfl rfl (by decide) _ (HS0.out.later (below_box _ _)) (by simp) (Whole.madeAt _ _ _ _ (by simp))).mono ?_
  rintro e w1 ⟨rfl, hS1⟩
  rw [List.nil_append] at hS1
  clear HS0
  obtain ⟨hb1, hM1, hC1, v1, hx1, hO1⟩ := hS1
  have hl1 : (bytesN ([fr, tg, clk].map u64n)).length ≤ 30 := by have h := bytes_room [] [fr, tg, clk]; simpa using h
  obtain ⟨A1, C1, hv1, hC1l, hB1⟩ := hO1.form (by omega)
  obtain ⟨z1, Hz1⟩ : ∃ z, Hid (bytesN ([fr, tg, clk].map u64n) = z) := ⟨_, rfl⟩
  rw [Hz1.out] at hO1 hB1 hC1l hv1 hl1
  obtain ⟨n1, Hn1⟩ : ∃ z, Hid (z = z1.length) := ⟨_, rfl⟩
  rw [← Hn1.out] at hB1 hC1l hv1 hl1
  subst hv1
  have HB1 := Lib.hid hB1
  have HO1 := Lib.hid hO1
  have HC1l := Lib.hid hC1l
  have Hl1 := Lib.hid hl1
  have Hb1 := Lib.hid hb1
  have HM1 := Lib.hid hM1
  have HF1 := Lib.hid hC1
  have HX1 := Lib.hid hx1
  clear hb1 hM1 hC1 hx1 hO1 hB1 hC1l hl1
  obtain ⟨⟨M0, M1, M2, M3⟩, ⟨M4, M5, M6, M7⟩, M8, M9, M10⟩ := ml_cells' HM1.out
  simp only at M0 M1 M2 M3 M4 M5 M6 M7 M8 M9 M10
  have x1 := HX1.out.cell 0
  go_wp2_with fail
  refine (pPut_own A1 n1 C1 z1 a1 m1 c1 rows w1 HB1.out Hn1.out HC1l.out Hm1.out (HB.out.later Hb1.out) (by have h := Hr.out; have h2 := Hl1.out; have h3 : 3 + ((flatR rows).length + (6 + 2 * echo.length)) ≤ 14073748835000 := h; have := Hn1.out; omega)).mono ?_
  rintro e w2 ⟨A2, n2, C2, rfl, hn2, hC2, hB2, hb2, hO2⟩
  obtain ⟨z2, Hz2⟩ : ∃ z, Hid (z1 ++ booksB rows = z) := ⟨_, rfl⟩
  have hl2 : (z1 ++ booksB rows).length ≤ 30 + 10 * (flatR rows).length := by
    have h := bytes_room [] (flatR rows)
    have h2 := Hl1.out
    have h3 := Hn1.out
    rw [List.nil_append, List.length_nil] at h
    rw [List.length_append]
    have h4 : (booksB rows).length ≤ 0 + 10 * (flatR rows).length := h
    omega
  rw [Hz2.out] at hn2 hB2 hO2 hl2
  have Hl2 := Lib.hid hl2
  have HM2 := Lib.hid (HM1.out.later hb2 HM1.out.lt)
  have HF2 := Lib.hid (HF1.out.later hb2 HF1.out.lt)
  have HX2 := Lib.hid (HX1.out.later hb2 HX1.out.lt)
  have hF1 := HF1.out.lt
  have HS2 : Hid (PutSt w (mlCells ⟨fr, tg, clk, rows, t, a, v, asks, try_, ph, echo⟩ (.slice a1 m1 c1) (.slice a2 m2 c2)) (w2.setCell ⟨w.heap.size + 1, 0, none⟩ (.slice A2 n2 C2)) z2) :=
    PutSt.step Hb1.out HM1.out HF1.out HX1.out (ownB_mono hO2 (by omega)) (hb2.mono (by omega))
  have Hs2 := Lib.hid (show w.heap.size + 2 < w2.heap.size from HF2.out.lt)
  clear hn2 hB2 hO2 hl2 hC2 hF1 hb2 M0 M1 M2 M3 M4 M5 M6 M7 M8 M9 M10 x1
  obtain ⟨⟨M0, M1, M2, M3⟩, ⟨M4, M5, M6, M7⟩, M8, M9, M10⟩ := ml_cells' HM2.out
  simp only at M0 M1 M2 M3 M4 M5 M6 M7 M8 M9 M10
  have x1 := HX2.out.cell 0
  have x2 := HX2.out.free 0
  have x3 : w2.cell? ⟨w.heap.size + 1 + 1, 0, none⟩ = some (.func (.func 23) #[] #[.pointer (some ⟨w.heap.size + 1, 0, none⟩)]) := HF2.out.cell 0
  go_wp2_with fail
  refine (mnums_calls w _ _ 0 4 [t, a, v, asks] z2 rfl rfl (by have h := Hr.out; have h2 := Hl2.out; have h3 : 3 + ((flatR rows).length + (6 + 2 * echo.length)) ≤ 14073748835000 := h; omega) _ (HS2.out.later (below_box _ _)) (by have := Hs2.out; simp; omega) (Whole.madeAt _ _ _ _ (by simp))).mono ?_
  rintro e w3 ⟨rfl, hS3⟩
  obtain ⟨z3, Hz3⟩ : ∃ z, Hid (z2 ++ bytesN ([t, a, v, asks].map u64n) = z) := ⟨_, rfl⟩
  have hl3 : (z2 ++ bytesN ([t, a, v, asks].map u64n)).length ≤ 70 + 10 * (flatR rows).length := by
    have h := bytes_room z2 [t, a, v, asks]
    have h2 := Hl2.out
    have h3 : [t, a, v, asks].length = 4 := rfl
    omega
  rw [Hz3.out] at hS3 hl3
  have Hl3 := Lib.hid hl3
  have HS3 := Lib.hid hS3
  clear hS3 hl3 HS2 M0 M1 M2 M3 M4 M5 M6 M7 M8 M9 M10 x1 x2 x3
  obtain ⟨⟨M0, M1, M2, M3⟩, ⟨M4, M5, M6, M7⟩, M8, M9, M10⟩ := ml_cells' HS3.out.2.1
  simp only at M0 M1 M2 M3 M4 M5 M6 M7 M8 M9 M10
  go_wp2_with fail
  refine (mlook_calls w _ try_ ph z3 (by have h := Hr.out; have h2 := Hl3.out; have h3 : 3 + ((flatR rows).length + (6 + 2 * echo.length)) ≤ 14073748835000 := h; omega) w3 HS3.out).mono ?_
  rintro e w4 ⟨rfl, hS4⟩
  obtain ⟨z4, Hz4⟩ : ∃ z, Hid (z3 ++ bytesN ([try_, ph].map u64n) = z) := ⟨_, rfl⟩
  have hl4 : (z3 ++ bytesN ([try_, ph].map u64n)).length ≤ 90 + 10 * (flatR rows).length := by
    have h := bytes_room z3 [try_, ph]
    have h2 := Hl3.out
    have h3 : [try_, ph].length = 2 := rfl
    omega
  rw [Hz4.out] at hS4 hl4
  have Hl4 := Lib.hid hl4
  have HS4 := Lib.hid hS4
  clear hS4 hl4 HS3 M0 M1 M2 M3 M4 M5 M6 M7 M8 M9 M10
  obtain ⟨⟨M0, M1, M2, M3⟩, ⟨M4, M5, M6, M7⟩, M8, M9, M10⟩ := ml_cells' HS4.out.2.1
  simp only at M0 M1 M2 M3 M4 M5 M6 M7 M8 M9 M10
  go_wp2_with fail
  go_loopw [46] (fun s46 wr => ∃ k : Nat, k ≤ m2 ∧ s46 = .int .i64 (k : Int) ∧ Hid (PutSt w (mlCells ⟨fr, tg, clk, rows, t, a, v, asks, try_, ph, echo⟩ (.slice a1 m1 c1) (.slice a2 m2 c2)) wr (z4 ++ bytesN ((echoN (echo.take k)).map u64n)))) (fun s46 _ => m2 - (intOf s46).toNat)
  case atStart => exact ⟨0, Nat.zero_le _, rfl, by show PutSt _ _ _ _; simpa [bytesN, echoN] using HS4.out⟩
  case round =>
    clear HS4 M0 M1 M2 M3 M4 M5 M6 M7 M8 M9 M10
    obtain ⟨k, hk, rfl, HS⟩ := hrel
    by_cases hkm : k < m2
    · have hkl : k < echo.length := by have h : m2 = echo.length := Hm2.out; omega
      obtain ⟨b, off, rfl, g0, g1⟩ := (HE.out.later HS.out.1).at (i := k) hkl
      obtain ⟨y, Hy⟩ : ∃ z, Hid (lkAt echo k = z) := ⟨_, rfl⟩
      obtain ⟨yt, yp⟩ := y
      rw [Hy.out] at g0 g1
      simp only at g0 g1
      have j0 : (0 : Int) ≤ (k : Int) := by omega
      have j1 : (k : Int) < (m2 : Int) := by omega
      have HK : Hid (echoN (echo.take k) ++ [yt, yp] = echoN (echo.take (k + 1))) := by
        show _ = _
        have h := Hy.out
        unfold lkAt at h
        rw [List.getElem?_eq_getElem hkl] at h
        have h' : echo[k] = (yt, yp) := h
        rw [List.take_succ_eq_append_getElem hkl, h']
        unfold echoN
        rw [List.flatMap_append]; rfl
      have hrm : (z4 ++ bytesN ((echoN (echo.take k)).map u64n)).length + 10 * 2 ≤ 140737488355000 := by
        have h := bytes_room z4 (echoN (echo.take k))
        have h1 := Hl4.out
        have h2 : 3 + ((flatR rows).length + (6 + 2 * echo.length)) ≤ 14073748835000 := Hr.out
        rw [echoN_len, List.length_take] at h
        omega
      have Hrm := Lib.hid hrm
      have Hjl := Lib.hid hkl
      clear hrm hkl
      go_wp2_with fail
      refine (mlook_calls w _ yt yp _ Hrm.out _ (HS.out.later (below_box _ _))).mono ?_
      rintro e w9 ⟨rfl, hS9⟩
      rw [List.append_assoc, ← bytesN_append, ← List.map_append, HK.out] at hS9
      have HS9 := Lib.hid hS9
      clear hS9 g0 g1
      go_wp2_with fail
      go_roundw
      case rel => exact ⟨k + 1, by omega, by go_num, HS9.out⟩
      case measure => simp [intOf]; omega
    · obtain rfl : k = m2 := by omega
      have hz : z4 ++ bytesN ((echoN (echo.take k)).map u64n) = zs := by
        have h : k = echo.length := Hm2.out
        rw [h, List.take_length, ← Hz4.out, ← Hz3.out, ← Hz2.out, ← Hz1.out, ← Hzs.out, mailBytes_parts]
        simp only [headN, tailN, List.append_assoc, List.map_append, bytesN_append, List.map_cons, List.map_nil]
        rw [show bytesN [u64n t, u64n a, u64n v, u64n asks, u64n try_, u64n ph] = bytesN [u64n t, u64n a, u64n v, u64n asks] ++ bytesN [u64n try_, u64n ph] from by rw [← bytesN_append]; rfl, List.append_assoc]
      rw [hz] at HS
      have hne : zs ≠ [] := by
        rw [← hz, ← Hz4.out, ← Hz3.out, ← Hz2.out, ← Hz1.out]
        intro h
        have := congrArg List.length h
        simp only [List.length_append, List.map_cons, bytesN, List.flatMap_cons, List.length_nil] at this
        have := PackMath.num_pos (u64n fr)
        omega
      clear hz
      obtain ⟨hb5, _, _, lv, hx5, hO5⟩ := HS.out
      have hF5 : Fresh w.heap.size 5 wr lv zs := ⟨(ownB_mono hO5 (by omega)).1, fun e => hne (by
        rcases hO5.1.2 with ⟨_, h0⟩ | ⟨g', cap, cur, h0, _⟩
        · exact List.eq_nil_of_length_eq_zero h0
        · rw [e] at h0; cases h0), hO5.2⟩
      have HF5 := Lib.hid hF5
      have Hb5 := Lib.hid hb5
      have y0 := hx5.cell 0
      clear hx5 hO5 hF5 hb5 hne
      go_wp2_with fail
      go_ret
      exact ⟨_, rfl, Hb5.out, HF5.out⟩
end Go.Proofs.Ytfpadcfahfanoaa

/- The document's own, layer 16: some numbers with which bytes begin. No law is proved here. -/
namespace Go.Proofs.Ytfpadcfahfanoaa
open Go.RowKit

/-- numbers, what is behind them, and whether there are so many -/
def TookN (w : World) (x : Option (List Nat × List Int)) (e : Ending) (w' : World) : Prop :=
  (∃ ns rest A C B D, x = some (ns, rest) ∧ e = .returned (.tuple #[.slice A ns.length C, .slice B rest.length D, .bool true]) ∧ Nums w' (.slice A ns.length C) (ns.map fun v : Nat => (v : Int)) ∧ Bytes w' (.slice B rest.length D) rest ∧ rest.length ≤ D ∧ Below w.heap.size w w') ∨
  (x = none ∧ e = .returned (.tuple #[.slice none 0 0, .slice none 0 0, .bool false]) ∧ Below w.heap.size w w')
/-- the same, and the numbers lie in a block of the call's own -/
def TookNF (w : World) (x : Option (List Nat × List Int)) (e : Ending) (w' : World) : Prop :=
  (∃ ns rest A C B D, x = some (ns, rest) ∧ e = .returned (.tuple #[.slice A ns.length C, .slice B rest.length D, .bool true]) ∧ Nums w' (.slice A ns.length C) (ns.map fun v : Nat => (v : Int)) ∧ Bytes w' (.slice B rest.length D) rest ∧ rest.length ≤ D ∧ Below w.heap.size w w' ∧ ∀ ad, A = some ad → w.heap.size ≤ ad.block) ∨
  (x = none ∧ e = .returned (.tuple #[.slice none 0 0, .slice none 0 0, .bool false]) ∧ Below w.heap.size w w')
theorem TookNF.took {w w' : World} {x : Option (List Nat × List Int)} {e : Ending} (h : TookNF w x e w') : TookN w x e w' := by
  rcases h with ⟨ns, rest, A, C, B, D, h1, h2, h3, h4, h5, h6, _⟩ | h
  · exact Or.inl ⟨ns, rest, A, C, B, D, h1, h2, h3, h4, h5, h6⟩
  · exact Or.inr h
theorem own_beyond {w : World} {base : Nat} {e : TypeId} {sz n c : Nat} {A : Option Addr} {xs : List Value} (h : w.ownsRow base e sz (.slice A n c) n xs) : ∀ ad, A = some ad → base ≤ ad.block := fun ad had => by
  subst had
  rcases h.2 with ⟨h3, _⟩ | ⟨g, cap, cur, h3, hg, _⟩
  · cases h3
  · simp only [Value.slice.injEq, Option.some.injEq] at h3
    rw [h3.1]; exact hg
theorem someN_bare {k n : Nat} {zs cur : List Int} {P : List Nat} (hP : P.length = k) (hk : k < n) (hz : zs = bytesN P ++ cur) (hb : PackMath.Bare cur) : someN n zs = none := someN_no fun ns rest hs => by
  obtain ⟨Q, hQ, hr⟩ := bytesN_prefix P ns cur rest (by rw [← hz, ← hs.2.2]) (by rw [hP, hs.1]; omega)
  cases Q with
  | nil => have := congrArg List.length hQ; rw [List.append_nil, hs.1, hP] at this; omega
  | cons v Q =>
    have hv : v ≤ 4611686018427387903 := hs.2.1 v (by rw [hQ]; simp)
    exact hb v (bytesN Q ++ rest) (by omega) (by rw [hr, bytesN_cons, List.append_assoc])
theorem someN_big {k n v : Nat} {zs cur rest : List Int} {P : List Nat} (hP : P.length = k) (hk : k < n) (hz : zs = bytesN P ++ cur) (hb : PackMath.Begins cur v rest) (hv : 4611686018427387903 < v) : someN n zs = none := someN_no fun ns rest' hs => by
  obtain ⟨Q, hQ, hr⟩ := bytesN_prefix P ns cur rest' (by rw [← hz, ← hs.2.2]) (by rw [hP, hs.1]; omega)
  cases Q with
  | nil => have := congrArg List.length hQ; rw [List.append_nil, hs.1, hP] at this; omega
  | cons v' Q =>
    have hv' : v' ≤ 4611686018427387903 := hs.2.1 v' (by rw [hQ]; simp)
    have e := (hb.unique (b := v') (y := bytesN Q ++ rest') ⟨by omega, by rw [hr, bytesN_cons, List.append_assoc]⟩).1
    omega
attribute [local go_sem ↓] run_fine
set_option maxRecDepth 100000 in
set_option maxHeartbeats 4000000 in
theorem refsome_far (a : Option Addr) (n d : Nat) (zs : List Int) (N : Nat) (hN : N ≤ 1000) (hn : n = zs.length) (hnd : n ≤ d) (w : World) (hB : Bytes w (.slice a n d) zs) :
    Calls Try.prog 20 #[.slice a n d, .int .i64 (N : Int)] w (TookNF w (someN N zs)) := by
  have HB := Lib.hid hB; clear hB
  have Hn := Lib.hid hn; clear hn
  obtain ⟨res, Hres⟩ : ∃ z, Hid (someN N zs = z) := ⟨_, rfl⟩
  rw [Hres.out]
  go_enter Try.func20, Try.ntmps20
  go_wp2_with fail
  go_loopw [0, 7, 8] (fun s0 s7 s8 wr => ∃ (k : Nat) (P : List Nat) (cu : List Int) (a2 : Option Addr) (n2 d2 : Nat) (tv : Value), k ≤ N ∧ s8 = .int .i64 (k : Int) ∧ s0 = .slice a2 n2 d2 ∧ s7 = tv ∧ Hid (n2 = cu.length ∧ n2 ≤ d2 ∧ Bytes w (.slice a2 n2 d2) cu) ∧
      Hid (wr.ownsRow w.heap.size 2 1 tv k ((P.map fun v : Nat => (v : Int)).map (Value.int .i64))) ∧ Hid (P.length = k ∧ (∀ v ∈ P, v ≤ 4611686018427387903) ∧ zs = bytesN P ++ cu) ∧ Hid (Below w.heap.size w wr)) (fun _ _ s8 _ => N - (intOf s8).toNat)
  case atStart => exact ⟨0, [], zs, a, n, d, _, Nat.zero_le _, rfl, rfl, rfl, ⟨Hn.out, hnd, HB.out⟩, World.ownsRow_nil _ _ _ _, ⟨rfl, fun _ h => (by cases h), by simp [bytesN]⟩, Below.refl _ _⟩
  case round =>
    obtain ⟨k, P, cu, a2, n2, d2, tv, hk, rfl, rfl, rfl, HC, HO, HP, Hb⟩ := hrel
    by_cases hkN : k < N
    · have j1 : (k : Int) < (N : Int) := by omega
      obtain ⟨hc1, hc2, hc3⟩ := HC.out
      rcases PackMath.begins_or cu with ⟨v, rest, hbg⟩ | hbare
      · obtain ⟨tv2, hT, hR, a3, d3, hv3, hl3⟩ := reftake_all a2 n2 d2 cu rest v wr (hc3.later Hb.out) hc1 hc2 hbg
        subst hv3
        have HT := Lib.hid hT
        have HR3 : Hid (rest.length = rest.length ∧ rest.length ≤ d3 ∧ Bytes w (.slice a3 rest.length d3) rest) := ⟨rfl, hl3, hR w hc3⟩
        have HBg := Lib.hid hbg
        obtain ⟨q, Hq⟩ : ∃ q, Hid (rest.length = q) := ⟨_, rfl⟩
        rw [Hq.out] at HT HR3
        clear hT hR hl3 hbg hc1 hc2 hc3
        go_wp2_with fail
        refine HT.out.mono ?_
        rintro e w3 ⟨rfl, hb⟩
        have Hb3 := Lib.hid (held_next Hb.out hb)
        have HO3 := Lib.hid (own_later HO.out hb)
        clear hb HT
        by_cases hbig : 4611686018427387903 < v
        · obtain rfl : res = none := Hres.out.symm.trans (someN_big HP.out.1 hkN HP.out.2.2 HBg.out hbig)
          have hbi : (4611686018427387903 : Int) < (v : Int) := by omega
          go_wp2_with fail
          go_ret3
          exact Or.inr ⟨rfl, by rfl, Hb3.out⟩
        · have hbi : ¬ (4611686018427387903 : Int) < (v : Int) := by omega
          have hwv : IntKind.i64.wrap (v : Int) = (v : Int) := IntWalk.i64_in _ (by omega)
          obtain ⟨v', w', hrun, g1, g2, g3⟩ := nums_push (w := w3) (base := w.heap.size) (P := P.map fun v : Nat => (v : Int)) (k := k) (v : Int) (by rw [List.length_map]; exact HP.out.1) HO3.out Hb3.out.size (by omega)
          obtain ⟨hfine, happV, happW⟩ := fine_of hrun
          have HO4 : Hid (w'.ownsRow w.heap.size 2 1 v' (k + 1) (((P ++ [v]).map fun v : Nat => (v : Int)).map (Value.int .i64))) := by
            show w'.ownsRow _ _ _ _ _ _
            rw [List.map_append]
            exact g1
          have Hb4 := Lib.hid (Hb3.out.trans g2)
          have HP4 : Hid ((P ++ [v]).length = k + 1 ∧ (∀ x ∈ P ++ [v], x ≤ 4611686018427387903) ∧ zs = bytesN (P ++ [v]) ++ rest) := by
            refine ⟨by rw [List.length_append, HP.out.1]; rfl, fun x hx => ?_, by rw [bytesN_append, bytesN_one, List.append_assoc, ← HBg.out.2]; exact HP.out.2.2⟩
            rcases List.mem_append.1 hx with h | h
            · exact HP.out.2.1 x h
            · rw [List.mem_singleton.1 h]; omega
          clear hrun g1 g2 g3
          go_wp2_with fail
          go_roundw
          case rel => exact ⟨k + 1, P ++ [v], rest, a3, q, d3, v', by omega, by go_num, rfl, rfl, ⟨Hq.out.symm, HR3.out.2⟩, HO4.out, HP4.out, Hb4.out⟩
          case measure => simp [intOf]; omega
      · have hT := reftake_no a2 n2 d2 cu wr (hc3.later Hb.out) hc1 hc2 hbare
        have HT := Lib.hid hT
        obtain rfl : res = none := Hres.out.symm.trans (someN_bare HP.out.1 hkN HP.out.2.2 hbare)
        clear hT hc1 hc2 hc3
        go_wp2_with fail
        refine HT.out.mono ?_
        rintro e w3 ⟨rfl, hb⟩
        have Hb3 := Lib.hid (held_next Hb.out hb)
        clear hb
        go_wp2_with fail
        go_ret3
        exact Or.inr ⟨rfl, by rfl, Hb3.out⟩
    · obtain rfl : k = N := by omega
      obtain rfl : res = some (P, cu) := Hres.out.symm.trans (someN_yes ⟨HP.out.1, HP.out.2.1, HP.out.2.2⟩)
      go_wp2_with fail
      have hO := HO.out
      have ef := flat_one (P.map fun v : Nat => (v : Int))
      rw [List.length_map, HP.out.1] at ef
      rw [ef] at hO
      obtain ⟨A, C, hv, _, hE⟩ := elems_of_own hO (by omega)
      subst hv
      have HE := Lib.hid hE
      have HOff := Lib.hid (own_beyond hO)
      clear hE hO
      go_ret3
      refine Or.inl ⟨P, cu, A, C, a2, d2, rfl, ?_, ?_, ?_, ?_, Hb.out, HOff.out⟩
      · rw [HP.out.1, ← HC.out.1]; rfl
      · unfold Nums
        rw [List.length_map, HP.out.1]
        exact HE.out
      · rw [← HC.out.1]; exact HC.out.2.2.later Hb.out
      · rw [← HC.out.1]; exact HC.out.2.1
theorem refsome_calls (a : Option Addr) (n d : Nat) (zs : List Int) (N : Nat) (hN : N ≤ 1000) (hn : n = zs.length) (hnd : n ≤ d) (w : World) (hB : Bytes w (.slice a n d) zs) :
    Calls Try.prog 20 #[.slice a n d, .int .i64 (N : Int)] w (TookN w (someN N zs)) := (refsome_far a n d zs N hN hn hnd w hB).mono fun _ _ h => h.took
end Go.Proofs.Ytfpadcfahfanoaa

/- The document's own, layer 3: Older, May. No law is proved here. -/
namespace Go.Proofs.Ytfpadcfahfanoaa
open Go.RowKit

set_option maxHeartbeats 400000 in
theorem refstampmay_calls (t a n : Int) (w : World) :
    Calls Try.prog 50 #[stampV t a, .int .i64 n] w (Says w (mayB t a n)) := by
  by_cases h : 1 ≤ t ∧ t ≤ 1125899906842624 ∧ 0 ≤ a ∧ a < n
  · rw [mayB_yes h]
    obtain ⟨h1, h2, h3, h4⟩ := h
    have h0 : 0 < t := by omega
    go_enter Try.func50, Try.ntmps50
    go_wp2_with fail
    go_ret
    exact ⟨by simp_all, below_box _ _⟩
  · rw [mayB_no h]
    by_cases h1 : 0 < t
    · by_cases h2 : t ≤ 1125899906842624
      · by_cases h3 : 0 ≤ a
        · have h4 : ¬ a < n := by omega
          clear h
          go_enter Try.func50, Try.ntmps50
          go_wp2_with fail
          go_ret
          exact ⟨by simp_all, below_box _ _⟩
        · clear h
          go_enter Try.func50, Try.ntmps50
          go_wp2_with fail
          go_ret
          exact ⟨by simp_all, below_box _ _⟩
      · clear h
        go_enter Try.func50, Try.ntmps50
        go_wp2_with fail
        go_ret
        exact ⟨by simp_all, below_box _ _⟩
    · clear h
      go_enter Try.func50, Try.ntmps50
      go_wp2_with fail
      go_ret
      exact ⟨by simp_all, below_box _ _⟩
end Go.Proofs.Ytfpadcfahfanoaa
