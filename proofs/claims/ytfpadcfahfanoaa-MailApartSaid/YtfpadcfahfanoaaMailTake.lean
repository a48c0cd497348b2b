/- Package mail, walked: Take. No law is proved here. -/
import Derived.Test.YtfpadcfahfanoaaMailTook
import Derived.Test.YtfpadcfahfanoaaMg28
import Derived.Test.YtfpadcfahfanoaaClaimMail
import Derived.Test.YtfpadcfahfanoaaMg21
namespace Go.Proofs.Ytfpadcfahfanoaa
open Go.RowKit

theorem ml11_other {wx : World} {g g' : Nat} {t : TypeId} {cs : Array Value} {x : Ml} {rv ev : Value} (h : Whole wx g' t cs) (hg : g' ≠ g) : Whole (ml11 wx g x rv ev) g' t cs :=
  ((((((((((h.other (p := ⟨g, 0, none⟩) hg _).other (p := ⟨g, 1, none⟩) hg _).other (p := ⟨g, 2, none⟩) hg _).other (p := ⟨g, 3, none⟩) hg _).other (p := ⟨g, 4, none⟩) hg _).other (p := ⟨g, 5, none⟩) hg _).other (p := ⟨g, 6, none⟩) hg _).other (p := ⟨g, 7, none⟩) hg _).other (p := ⟨g, 8, none⟩) hg _).other (p := ⟨g, 9, none⟩) hg _).other (p := ⟨g, 10, none⟩) hg _
set_option maxRecDepth 100000 in
set_option maxHeartbeats 8000000 in
theorem mTake_calls (c : Cf) (a : Option Addr) (n d : Nat) (zs : List Int) (w : World) (hB : Bytes w (.slice a n d) zs) (hn : n = zs.length) (hnd : n ≤ d) :
    Calls Try.prog 7 #[cfV c, .slice a n d] w (TookM w (takeM c zs)) := by
  have HB := Lib.hid hB; clear hB
  have Hn := Lib.hid hn; clear hn
  have HC0 := Lib.hid ((Whole.made w 23 (cfCells c)).alloc (.cells (mlCells ml0 (.slice none 0 0) (.slice none 0 0)) 35))
  have HZ0 := Lib.hid (Whole.made2 w (.cells (cfCells c) 23) 35 (mlCells ml0 (.slice none 0 0) (.slice none 0 0)))
  have Hb0 := Lib.hid (below_two w (.cells (cfCells c) 23) (.cells (mlCells ml0 (.slice none 0 0) (.slice none 0 0)) 35))
  obtain ⟨N, q, r, p, kk, cc⟩ := c
  obtain ⟨ok, Hok⟩ : ∃ z, Hid (cfB ⟨N, q, r, p, kk, cc⟩ = z) := ⟨_, rfl⟩
  obtain ⟨⟨m0, m1, m2, m3⟩, ⟨m4, m5, m6, m7⟩, m8, m9, m10⟩ := ml_cells' HZ0.out
  have hdz := config_cells HC0.out
  obtain ⟨d0, d1, d2, d3, d4, d5⟩ := hdz
  simp only at d0 d1 d2 d3 d4 d5 m0 m1 m2 m3 m4 m5 m6 m7 m8 m9 m10
  obtain ⟨res, Hres⟩ : ∃ z, Hid (takeM ⟨N, q, r, p, kk, cc⟩ zs = z) := ⟨_, rfl⟩
  rw [Hres.out]
  go_enter Try.func7, Try.ntmps7
  go_wp2_with fail
  refine (rMay_calls ⟨N, q, r, p, kk, cc⟩ _).mono ?_
  rintro e w1 ⟨rfl, hb⟩
  rw [Hok.out]
  have Hb1 := Lib.hid (held_next Hb0.out hb)
  have HC1 := Lib.hid (HC0.out.later hb HC0.out.lt)
  have HZ1 := Lib.hid (HZ0.out.later hb HZ0.out.lt)
  clear hb d0 d1 d2 d3 d4 d5 m0 m1 m2 m3 m4 m5 m6 m7 m8 m9 m10
  obtain ⟨⟨m0, m1, m2, m3⟩, ⟨m4, m5, m6, m7⟩, m8, m9, m10⟩ := ml_cells' HZ1.out
  simp only at m0 m1 m2 m3 m4 m5 m6 m7 m8 m9 m10
  cases ok with
  | false =>
    obtain rfl : res = none := Hres.out.symm.trans <| takeM_no fun x hx => by
      have h := decide_eq_true hx.1.1.1
      rw [show decide (cfOk ⟨N, q, r, p, kk, cc⟩) = false from Hok.out] at h
      cases h
    have y0 := HZ1.out.free 0
    have y1 := HZ1.out.free 1
    have y2 := HZ1.out.free 2
    have y3 := HZ1.out.free 3
    have y4 := HZ1.out.free 4
    have y5 := HZ1.out.free 5
    have y6 := HZ1.out.free 6
    have y7 := HZ1.out.free 7
    have y8 := HZ1.out.free 8
    have y9 := HZ1.out.free 9
    have y10 := HZ1.out.free 10
    have hbl := ml11_below (x := ml0) (rv := .slice none 0 0) (ev := .slice none 0 0) (g := w.heap.size + 1) Hb1.out (by omega)
    have hwh := ml11_whole (x := ml0) (rv := .slice none 0 0) (ev := .slice none 0 0) HZ1.out
    have HBl := Lib.hid hbl
    clear hbl
    have q0 := (ml_cells' hwh).1
    have q1 := (ml_cells' hwh).2
    obtain ⟨⟨k0, k1, k2, k3⟩, ⟨k4, k5, k6, k7⟩, k8, k9, k10⟩ := ml_cells' hwh
    unfold ml11 at k0 k1 k2 k3 k4 k5 k6 k7 k8 k9 k10
    simp only at k0 k1 k2 k3 k4 k5 k6 k7 k8 k9 k10
    clear q0 q1 hwh
    go_wp2_with fail
    refine bodyPost_ret (v := .tuple #[mlV ml0 (.slice none 0 0) (.slice none 0 0), .bool false]) (by simp [results, Try.results7, go_sem, k0, k1, k2, k3, k4, k5, k6, k7, k8, k9, k10]) rfl ?_
    exact ⟨none, 0, 0, none, 0, 0, by rfl, mail_none _, HBl.out⟩
  | true =>
    have hok := cfB_ok Hok.out
    obtain ⟨M, hM⟩ : ∃ M : Nat, N = (M : Int) := ⟨N.toNat, by have := hok.1; simp only at this; omega⟩
    subst hM
    have h16 : M ≤ 16 := by have := hok.2.1; simp only at this; omega
    have hN1 : 1 ≤ M := by have := hok.1; simp only at this; omega
    clear hok
    have hmk : ∀ w : World, (Instr.makeSlice 33 (.int .i64 (M : Int)) (.int .i64 (M : Int))).run Try.prog w = .ok (.slice (some ⟨w.heap.size, 0, none⟩) M M) (w.alloc (.cells (madeCells #[.int .i64 0, .int .i64 0] (M * 2)) 32)) := fun w => run_make_looks (m := M) (by omega)
    obtain ⟨d0, d1, d2, d3, d4, d5⟩ := config_cells HC1.out
    simp only at d0 d1 d2 d3 d4 d5
    go_wp2_with fail
    obtain ⟨W4, hW4, E1, E2, E3, E4, E5, E6, E7, E8, Eb⟩ := take_world w1 (madeCells #[.int .i64 0, .int .i64 0] (M * 2)) (mlCells ml0 (.slice none 0 0) (.slice (some ⟨w1.heap.size, 0, none⟩) M M)) #[.slice a n d, .bool false] #[.int .i64 0] #[.int .i64 0] #[.int .i64 0] #[.int .i64 0]
      #[.pointer (some ⟨w1.heap.size + 1 + 1 + 1, 0, none⟩), .pointer (some ⟨w1.heap.size + 1 + 1 + 1 + 1, 0, none⟩), .pointer (some ⟨w1.heap.size + 1, 2, none⟩)]
    simp only [mlCells] at hW4
    rw [hW4]
    have hS4 : TkSt w w1.heap.size ⟨(M : Int), q, r, p, kk, cc⟩ M (zs, false) ml0 (.slice none 0 0) 0 0 0 0 (madeCells #[.int .i64 0, .int .i64 0] (M * 2)) W4 :=
      ⟨⟨held_next Hb1.out Eb, _, E3, a, n, d, rfl, Hn.out, hnd, fun W hW => HB.out.later hW⟩, HC1.out.later Eb HC1.out.lt, HZ1.out.later Eb HZ1.out.lt, E2, E4, E5, E6, E7, E1, HZ1.out.lt⟩
    obtain ⟨z, hz⟩ : ∃ z, w1.heap.size = z := ⟨_, rfl⟩
    rw [hz] at hS4 E8 ⊢
    clear hW4 E1 E2 E3 E4 E5 E6 E7 Eb hz d0 d1 d2 d3 d4 d5 m0 m1 m2 m3 m4 m5 m6 m7 m8 m9 m10 HC1 HZ1 HC0 HZ0 hmk
    refine (hS4.call3 _ (by omega) E8).mono ?_
    rintro e w5 ⟨rfl, hS5, _⟩
    clear hS4 E8
    have HS5 := Lib.hid hS5
    clear hS5
    obtain ⟨d0, d1, d2, d3, d4, d5⟩ := config_cells HS5.out.cf
    simp only at d0 d1 d2 d3 d4 d5
    go_wp2_with fail
    refine HS5.out.books.mono ?_
    rintro e w6 ⟨A, C, rfl, hS6, hF6⟩
    obtain ⟨L, HL⟩ : ∃ L, Hid ((rdB ⟨(M : Int), q, r, p, kk, cc⟩ (rdS (zs, false) 3)).1 = L) := ⟨_, rfl⟩
    obtain ⟨s2, Hs2⟩ : ∃ s2, Hid ((rdB ⟨(M : Int), q, r, p, kk, cc⟩ (rdS (zs, false) 3)).2 = s2) := ⟨_, rfl⟩
    rw [Hs2.out] at hS6
    rw [HL.out] at hF6 ⊢
    obtain ⟨l, Hl⟩ : ∃ l, Hid (L.length = l) := ⟨_, rfl⟩
    rw [Hl.out] at hF6 ⊢
    obtain ⟨clk, Hclk⟩ : ∃ x, Hid (rdX (zs, false) 2 = x) := ⟨_, rfl⟩
    obtain ⟨fr, Hfr⟩ : ∃ x, Hid (rdX (zs, false) 0 = x) := ⟨_, rfl⟩
    obtain ⟨tg, Htg⟩ : ∃ x, Hid (rdX (zs, false) 1 = x) := ⟨_, rfl⟩
    rw [Hclk.out, Hfr.out, Htg.out] at hS6
    have hS6' : TkSt w z ⟨(M : Int), q, r, p, kk, cc⟩ M s2 ⟨0, 0, clk, L, 0, 0, 0, 0, 0, 0, []⟩ (.slice A l C) fr tg 0 0 (madeCells #[.int .i64 0, .int .i64 0] (M * 2)) (w6.setCell ⟨z + 1, 3, none⟩ (.slice A l C)) := hS6.set rfl
    have hF6' := hF6.other (p := ⟨z + 1, 3, none⟩) (by show z + 1 < _; omega) (.slice A l C)
    have hz6 : z + 1 + 1 + 1 + 1 + 1 + 1 < w6.heap.size := hS6.b11.lt
    obtain ⟨⟨m0, m1, m2, m3⟩, ⟨m4, m5, m6, m7⟩, m8, m9, m10⟩ := ml_cells' hS6.ml
    have y3 := hS6.ml.free 3
    have HS6 := Lib.hid hS6'
    have HF6 := Lib.hid hF6'
    have Hz6 := Lib.hid hz6
    simp only at m0 m1 m2 m3 m4 m5 m6 m7 m8 m9 m10
    clear hS6 hF6 hS6' hF6' hz6 HS5 d0 d1 d2 d3 d4 d5
    go_wp2_with fail
    refine ((HS6.out.later (below_box _ _)).call4 _ (by first | exact Hz6.out | (simp; exact Hz6.out)) (Whole.madeAt _ _ _ _ (by simp))).mono ?_
    rintro e w7 ⟨rfl, hS7, hf7⟩
    have hF7 := (HF6.out.later (below_box _ _)).farR hf7 (Nat.le_refl _)
    obtain ⟨ht, Hht⟩ : ∃ x, Hid (rdX s2 0 = x) := ⟨_, rfl⟩
    obtain ⟨ha, Hha⟩ : ∃ x, Hid (rdX s2 1 = x) := ⟨_, rfl⟩
    obtain ⟨hm, Hhm⟩ : ∃ x, Hid (rdX s2 2 = x) := ⟨_, rfl⟩
    obtain ⟨asks, Hasks⟩ : ∃ x, Hid (rdX s2 3 = x) := ⟨_, rfl⟩
    rw [Hht.out, Hha.out, Hhm.out, Hasks.out] at hS7
    simp only at hS7
    have hS8 : TkSt w z ⟨(M : Int), q, r, p, kk, cc⟩ M (rdS s2 4) ⟨fr, tg, clk, L, ht, ha, hm, asks, 0, 0, []⟩ (.slice A l C) fr tg ha asks (madeCells #[.int .i64 0, .int .i64 0] (M * 2)) ((((w7.setCell ⟨z + 1, 0, none⟩ (.int .i64 fr)).setCell ⟨z + 1, 1, none⟩ (.int .i64 tg)).setCell ⟨z + 1, 5, none⟩ (.int .i64 ha)).setCell ⟨z + 1, 7, none⟩ (.int .i64 asks)) :=
      (((hS7.set (y := ⟨fr, 0, clk, L, ht, 0, hm, 0, 0, 0, []⟩) (rv' := .slice A l C) rfl).set (y := ⟨fr, tg, clk, L, ht, 0, hm, 0, 0, 0, []⟩) (rv' := .slice A l C) rfl).set (y := ⟨fr, tg, clk, L, ht, ha, hm, 0, 0, 0, []⟩) (rv' := .slice A l C) rfl).set (y := ⟨fr, tg, clk, L, ht, ha, hm, asks, 0, 0, []⟩) (rv' := .slice A l C) rfl
    have hF8 := (((hF7.other (p := ⟨z + 1, 0, none⟩) (by show z + 1 < _; omega) (.int .i64 fr)).other (p := ⟨z + 1, 1, none⟩) (by show z + 1 < _; omega) (.int .i64 tg)).other (p := ⟨z + 1, 5, none⟩) (by show z + 1 < _; omega) (.int .i64 ha)).other (p := ⟨z + 1, 7, none⟩) (by show z + 1 < _; omega) (.int .i64 asks)
    clear m0 m1 m2 m3 m4 m5 m6 m7 m8 m9 m10 y3
    obtain ⟨⟨m0, m1, m2, m3⟩, ⟨m4, m5, m6, m7⟩, m8, m9, m10⟩ := ml_cells' hS7.ml
    simp only at m0 m1 m2 m3 m4 m5 m6 m7 m8 m9 m10
    have y0 := hS7.ml.free 0
    have y1 := hS7.ml.free 1
    have y5 := hS7.ml.free 5
    have y7 := hS7.ml.free 7
    have t8 : w7.cell? ⟨z + 1 + 1 + 1, 0, none⟩ = some (.int .i64 fr) := hS7.b8.cell 0
    have t9 : w7.cell? ⟨z + 1 + 1 + 1 + 1, 0, none⟩ = some (.int .i64 tg) := hS7.b9.cell 0
    have t10 : w7.cell? ⟨z + 1 + 1 + 1 + 1 + 1, 0, none⟩ = some (.int .i64 ha) := hS7.b10.cell 0
    have t11 : w7.cell? ⟨z + 1 + 1 + 1 + 1 + 1 + 1, 0, none⟩ = some (.int .i64 asks) := hS7.b11.cell 0
    have HS8 := Lib.hid hS8
    have HF8 := Lib.hid hF8
    clear hS7 hf7 hF7 hS8 hF8 HS6 HF6 Hz6
    go_wp2_with fail
    refine HS8.out.look.mono ?_
    rintro e w9 ⟨rfl, hS9, hf9⟩
    have hF9 := HF8.out.farR hf9 (Nat.le_refl _)
    obtain ⟨tr, Htr⟩ : ∃ x, Hid (rdX (rdS s2 4) 0 = x) := ⟨_, rfl⟩
    obtain ⟨ph, Hph⟩ : ∃ x, Hid (rdX (rdS s2 4) 1 = x) := ⟨_, rfl⟩
    rw [Htr.out, Hph.out]
    obtain ⟨s4, Hs4⟩ : ∃ s4, Hid (rdS (rdS s2 4) 2 = s4) := ⟨_, rfl⟩
    rw [Hs4.out] at hS9
    have hSa : TkSt w z ⟨(M : Int), q, r, p, kk, cc⟩ M s4 ⟨fr, tg, clk, L, ht, ha, hm, asks, tr, ph, []⟩ (.slice A l C) fr tg ha asks (madeCells #[.int .i64 0, .int .i64 0] (M * 2)) ((w9.setCell ⟨z + 1, 8, none⟩ (.int .i64 tr)).setCell ⟨z + 1, 9, none⟩ (.int .i64 ph)) :=
      (hS9.set (y := ⟨fr, tg, clk, L, ht, ha, hm, asks, tr, 0, []⟩) (rv' := .slice A l C) rfl).set (y := ⟨fr, tg, clk, L, ht, ha, hm, asks, tr, ph, []⟩) (rv' := .slice A l C) rfl
    have hFa := (hF9.other (p := ⟨z + 1, 8, none⟩) (by show z + 1 < _; omega) (.int .i64 tr)).other (p := ⟨z + 1, 9, none⟩) (by show z + 1 < _; omega) (.int .i64 ph)
    clear m0 m1 m2 m3 m4 m5 m6 m7 m8 m9 m10 y0 y1 y5 y7 t8 t9 t10 t11
    obtain ⟨⟨m0, m1, m2, m3⟩, ⟨m4, m5, m6, m7⟩, m8, m9, m10⟩ := ml_cells' hS9.ml
    simp only at m0 m1 m2 m3 m4 m5 m6 m7 m8 m9 m10
    have y8 := hS9.ml.free 8
    have y9 := hS9.ml.free 9
    have HSa := Lib.hid hSa
    have HFa := Lib.hid hFa
    clear hS9 hf9 hF9 hSa hFa HS8 HF8
    go_wp2_with fail
    clear m0 m1 m2 m3 m4 m5 m6 m7 m8 m9 m10 y8 y9
    go_loopw [51] (fun s51 wr => ∃ (k : Nat) (ec : Array Value), k ≤ M ∧ s51 = .int .i64 (k : Int) ∧ Hid (TkSt w z ⟨(M : Int), q, r, p, kk, cc⟩ M (rdS s4 (2 * k)) ⟨fr, tg, clk, L, ht, ha, hm, asks, tr, ph, []⟩ (.slice A l C) fr tg ha asks ec wr) ∧ Hid (BooksFar (z + 1 + 1 + 1 + 1 + 1 + 1 + 1) wr (.slice A l C) L) ∧ Hid (EcOk s4 M k ec)) (fun s51 _ => M - (intOf s51).toNat)
    case atStart => exact ⟨0, _, Nat.zero_le _, rfl, HSa.out, HFa.out, ecOk_zero _ _⟩
    case round =>
      clear HSa HFa
      obtain ⟨k, ec, hk, rfl, HS, HF, HE⟩ := hrel
      have j0 : (0 : Int) ≤ (k : Int) := by omega
      have m10 : wr.cell? ⟨z + 1, 10, none⟩ = some (.slice (some ⟨z, 0, none⟩) M M) := HS.out.ml.cell 10
      by_cases hkm : k < M
      · have j1 : (k : Int) < (M : Int) := by omega
        obtain ⟨x0, Hx0⟩ : ∃ x, Hid (rdX (rdS s4 (2 * k)) 0 = x) := ⟨_, rfl⟩
        obtain ⟨x1, Hx1⟩ : ∃ x, Hid (rdX (rdS s4 (2 * k)) 1 = x) := ⟨_, rfl⟩
        have HT : Hid (∀ W, Below wr.heap.size wr W → Calls Try.prog 18 #[.pointer (some ⟨z + 1 + 1, 0, none⟩)] W (fun e w' => e = .returned (.agg #[.int .i64 x0, .int .i64 x1]) ∧ TkSt w z ⟨(M : Int), q, r, p, kk, cc⟩ M (rdS s4 (2 * (k + 1))) ⟨fr, tg, clk, L, ht, ha, hm, asks, tr, ph, []⟩ (.slice A l C) fr tg ha asks ec w' ∧ BooksFar (z + 1 + 1 + 1 + 1 + 1 + 1 + 1) w' (.slice A l C) L)) := fun W hW => ((HS.out.later hW).look).mono fun e w' ⟨h1, h2, h3⟩ => ⟨by rw [h1, Hx0.out, Hx1.out], by rw [rdS_add] at h2; exact h2, (HF.out.later hW).farR h3 (Nat.le_refl _)⟩
        have hm10 : Hid (∀ W, Below wr.heap.size wr W → W.cell? ⟨z + 1, 10, none⟩ = some (.slice (some ⟨z, 0, none⟩) M M)) := fun W hW => cell_later hW m10
        have HEc : Hid (∀ W, Whole W z 32 ec → (∃ u, W.cell? ⟨z, k * 2, none⟩ = some u) ∧ (∃ u, W.cell? ⟨z, k * 2 + 1, none⟩ = some u) ∧ W.frozen? ⟨z, k * 2, none⟩ = false ∧ W.frozen? ⟨z, k * 2 + 1, none⟩ = false) := fun W hW =>
          ⟨⟨ec[k * 2]'(by have := HE.out.1; omega), by rw [hW.cell]; exact Array.getElem?_eq_getElem _⟩, ⟨ec[k * 2 + 1]'(by have := HE.out.1; omega), by rw [hW.cell]; exact Array.getElem?_eq_getElem _⟩, hW.free _, hW.free _⟩
        go_wp2_with fail
        go_region_held3 (fun w' => w'.cell? ⟨z + 1, 10, none⟩ = some (.slice (some ⟨z, 0, none⟩) M M))
          (first | exact hm10.out _ (Below.refl _ _).drew | exact hS9.ml.cell 10 | exact hSb.ml.cell 10)
          (first | (go_at_call 18; refine (HT.out _ (Below.refl _ _).drew).mono ?_; rintro ee w9 ⟨rfl, hS9, hF9⟩; obtain ⟨⟨q0, p0⟩, ⟨q1, p1⟩, f0, f1⟩ := HEc.out w9 hS9.ec; have hSb := (hS9.sete (i := k * 2) (k := .int .i64 x0)).sete (i := k * 2 + 1) (k := .int .i64 x1)) | fail)
        have hFb := (hF9.other (p := ⟨z, k * 2, none⟩) (by show z < _; omega) (.int .i64 x0)).other (p := ⟨z, k * 2 + 1, none⟩) (by show z < _; omega) (.int .i64 x1)
        have hEb : EcOk s4 M (k + 1) ((ec.setIfInBounds (k * 2) (.int .i64 x0)).setIfInBounds (k * 2 + 1) (.int .i64 x1)) := by
          rw [← Hx0.out, ← Hx1.out]
          exact HE.out.more hkm
        have HSb := Lib.hid hSb
        have HFb := Lib.hid hFb
        have HEb := Lib.hid hEb
        clear hFb hEb hSb hF9 hS9 q0 p0 q1 p1 f0 f1 m10
        go_wp2_with fail
        go_roundw
        case rel => exact ⟨k + 1, _, by omega, by go_num, HSb.out, HFb.out, HEb.out⟩
        case measure => simp [intOf]; omega
      · have hkM : k = M := by omega
        have j1 : ¬ ((k : Int) < (M : Int)) := by omega
        rw [hkM] at HS HE
        have HkM := Lib.hid hkM
        clear hkM hkm
        have HGo : Hid (goM ⟨(M : Int), q, r, p, kk, cc⟩ M zs = ⟨fr, tg, clk, L, ht, ha, hm, asks, tr, ph, (List.range M).map fun i => (rdX s4 (2 * i), rdX s4 (2 * i + 1))⟩) := by
          show _ = _
          have e2 : goS2 ⟨(M : Int), q, r, p, kk, cc⟩ zs = s2 := Hs2.out
          unfold goM
          rw [e2]
          have e4 : ∀ i, rdX s2 (6 + 2 * i) = rdX s4 (2 * i) := fun i => by rw [← Hs4.out, rdX_add, rdX_add]; congr 1; omega
          have e5 : ∀ i, rdX s2 (6 + 2 * i + 1) = rdX s4 (2 * i + 1) := fun i => by rw [← Hs4.out, rdX_add, rdX_add]; congr 1; omega
          have e6 : rdX s2 4 = tr := by rw [← Htr.out, rdX_add]
          have e7 : rdX s2 5 = ph := by rw [← Hph.out, rdX_add]
          have e8 : (rdB ⟨(M : Int), q, r, p, kk, cc⟩ (goS1 zs)).1 = L := HL.out
          rw [Hfr.out, Htg.out, Hclk.out, e8, Hht.out, Hha.out, Hhm.out, Hasks.out, e6, e7]
          simp only [e4, e5]
        have HGE : Hid (goE ⟨(M : Int), q, r, p, kk, cc⟩ M zs = rdS s4 (2 * M)) := by
          show _ = _
          have e2 : goS2 ⟨(M : Int), q, r, p, kk, cc⟩ zs = s2 := Hs2.out
          unfold goE
          rw [e2, ← Hs4.out, rdS_add, rdS_add]
          congr 1; omega
        have hgo := Hres.out.symm.trans (takeM_go (c := ⟨(M : Int), q, r, p, kk, cc⟩) (n := M) rfl zs)
        rw [HGo.out, HGE.out] at hgo
        obtain ⟨zE, bE, hE⟩ : ∃ zE bE, rdS s4 (2 * M) = (zE, bE) := ⟨_, _, rfl⟩
        have hS := HS.out
        rw [hE] at hgo hS
        simp only at hgo
        have Hgo := Lib.hid hgo
        clear hgo hE HGE HGo
        obtain ⟨hb, v, hv1, A3, n3, C3, rfl, hn3, hC3, hG3⟩ := hS.rd
        have c0 : wr.cell? ⟨z + 1 + 1, 0, none⟩ = some (.slice A3 n3 C3) := hv1.cell 0
        have c1 : wr.cell? ⟨z + 1 + 1, 1, none⟩ = some (.bool bE) := hv1.cell 1
        have HSE := Lib.hid hS
        have Hb := Lib.hid hb
        have Hn3 := Lib.hid hn3
        have hn3b : n3 ≤ 9223372036854775807 := by have h := (hG3 wr hb).1; rw [hn3]; exact h
        clear hS hb hv1 hC3 hG3 hn3 HS
        cases bE with
        | true =>
          obtain rfl : res = none := Hgo.out.trans (if_neg fun h => Bool.noConfusion h.1)
          have hZ := HSE.out.res
          have hbl := ml11_below (x := ml0) (rv := .slice none 0 0) (ev := .slice none 0 0) (g := w.heap.size + 1) Hb.out (by omega)
          have hwh := ml11_whole (x := ml0) (rv := .slice none 0 0) (ev := .slice none 0 0) hZ
          have HBl := Lib.hid hbl
          clear hbl
          obtain ⟨⟨m0, m1, m2, m3⟩, ⟨m4, m5, m6, m7⟩, m8, m9, m10⟩ := ml_cells' hZ
          simp only at m0 m1 m2 m3 m4 m5 m6 m7 m8 m9 m10
          have y0 := hZ.free 0
          have y1 := hZ.free 1
          have y2 := hZ.free 2
          have y3 := hZ.free 3
          have y4 := hZ.free 4
          have y5 := hZ.free 5
          have y6 := hZ.free 6
          have y7 := hZ.free 7
          have y8 := hZ.free 8
          have y9 := hZ.free 9
          have y10 := hZ.free 10
          obtain ⟨⟨k0, k1, k2, k3⟩, ⟨k4, k5, k6, k7⟩, k8, k9, k10⟩ := ml_cells' hwh
          unfold ml11 at k0 k1 k2 k3 k4 k5 k6 k7 k8 k9 k10
          simp only at k0 k1 k2 k3 k4 k5 k6 k7 k8 k9 k10
          clear hwh hZ
          go_wp2_with fail
          refine bodyPost_ret (v := .tuple #[mlV ml0 (.slice none 0 0) (.slice none 0 0), .bool false]) (by simp [results, Try.results7, go_sem, k0, k1, k2, k3, k4, k5, k6, k7, k8, k9, k10]) rfl ?_
          exact ⟨none, 0, 0, none, 0, 0, by rfl, mail_none _, HBl.out⟩
        | false =>
        by_cases h0 : 0 < n3
        · obtain rfl : res = none := Hgo.out.trans (if_neg fun h => by have := Hn3.out; rw [show zE = [] from h.2.1] at this; simp at this; omega)
          have h1 : (0 : Int) < (n3 : Int) := by omega
          have hZ := HSE.out.res
          have hbl := ml11_below (x := ml0) (rv := .slice none 0 0) (ev := .slice none 0 0) (g := w.heap.size + 1) Hb.out (by omega)
          have hwh := ml11_whole (x := ml0) (rv := .slice none 0 0) (ev := .slice none 0 0) hZ
          have HBl := Lib.hid hbl
          clear hbl
          obtain ⟨⟨m0, m1, m2, m3⟩, ⟨m4, m5, m6, m7⟩, m8, m9, m10⟩ := ml_cells' hZ
          simp only at m0 m1 m2 m3 m4 m5 m6 m7 m8 m9 m10
          have y0 := hZ.free 0
          have y1 := hZ.free 1
          have y2 := hZ.free 2
          have y3 := hZ.free 3
          have y4 := hZ.free 4
          have y5 := hZ.free 5
          have y6 := hZ.free 6
          have y7 := hZ.free 7
          have y8 := hZ.free 8
          have y9 := hZ.free 9
          have y10 := hZ.free 10
          obtain ⟨⟨k0, k1, k2, k3⟩, ⟨k4, k5, k6, k7⟩, k8, k9, k10⟩ := ml_cells' hwh
          unfold ml11 at k0 k1 k2 k3 k4 k5 k6 k7 k8 k9 k10
          simp only at k0 k1 k2 k3 k4 k5 k6 k7 k8 k9 k10
          clear hwh hZ
          go_wp2_with fail
          refine bodyPost_ret (v := .tuple #[mlV ml0 (.slice none 0 0) (.slice none 0 0), .bool false]) (by simp [results, Try.results7, go_sem, k0, k1, k2, k3, k4, k5, k6, k7, k8, k9, k10]) rfl ?_
          exact ⟨none, 0, 0, none, 0, 0, by rfl, mail_none _, HBl.out⟩
        · have h1 : ¬ ((0 : Int) < (n3 : Int)) := by omega
          have hzE : zE = [] := List.eq_nil_of_length_eq_zero (by have h : n3 = zE.length := Hn3.out; omega)
          have HzE := Lib.hid hzE
          clear hzE
          have hMI : MailIn wr A l C (some ⟨z, 0, none⟩) M M ⟨fr, tg, clk, L, ht, ha, hm, asks, tr, ph, (List.range M).map fun i => (rdX s4 (2 * i), rdX s4 (2 * i + 1))⟩ := ⟨Hl.out.symm, HF.out.1, by simp, HE.out.looks (by omega) HSE.out.ec⟩
          have HMI := Lib.hid hMI
          clear hMI
          obtain ⟨⟨m0, m1, m2, m3⟩, ⟨m4, m5, m6, m7⟩, m8, m9, m10⟩ := ml_cells' HSE.out.ml
          obtain ⟨d0, d1, d2, d3, d4, d5⟩ := config_cells HSE.out.cf
          simp only at m0 m1 m2 m3 m4 m5 m6 m7 m8 m9 m10 d0 d1 d2 d3 d4 d5
          go_wp2_with fail
          obtain ⟨okm, Hokm⟩ : ∃ b, Hid (mailB ⟨(M : Int), q, r, p, kk, cc⟩ ⟨fr, tg, clk, L, ht, ha, hm, asks, tr, ph, (List.range M).map fun i => (rdX s4 (2 * i), rdX s4 (2 * i + 1))⟩ = b) := ⟨_, rfl⟩
          refine (cMayMail_calls ⟨(M : Int), q, r, p, kk, cc⟩ ⟨fr, tg, clk, L, ht, ha, hm, asks, tr, ph, (List.range M).map fun i => (rdX s4 (2 * i), rdX s4 (2 * i + 1))⟩ A l C (some ⟨z, 0, none⟩) M M wr HMI.out).mono ?_
          rintro e w12 ⟨rfl, hb12⟩
          rw [Hokm.out]
          have HSE2 := Lib.hid (HSE.out.later hb12)
          have Hb2 := Lib.hid (held_next Hb.out hb12)
          cases okm with
          | false =>
            clear m0 m1 m2 m3 m4 m5 m6 m7 m8 m9 m10 d0 d1 d2 d3 d4 d5 c0 c1
            obtain rfl : res = none := Hgo.out.trans (if_neg fun h => by
              have h3 := decide_eq_true h.2.2
              rw [show decide (mailOk ⟨(M : Int), q, r, p, kk, cc⟩ ⟨fr, tg, clk, L, ht, ha, hm, asks, tr, ph, (List.range M).map fun i => (rdX s4 (2 * i), rdX s4 (2 * i + 1))⟩) = false from Hokm.out] at h3
              cases h3)
            have hZ := HSE2.out.res
            have hbl := ml11_below (x := ml0) (rv := .slice none 0 0) (ev := .slice none 0 0) (g := w.heap.size + 1) Hb2.out (by omega)
            have hwh := ml11_whole (x := ml0) (rv := .slice none 0 0) (ev := .slice none 0 0) hZ
            have HBl := Lib.hid hbl
            clear hbl
            obtain ⟨⟨m0, m1, m2, m3⟩, ⟨m4, m5, m6, m7⟩, m8, m9, m10⟩ := ml_cells' hZ
            simp only at m0 m1 m2 m3 m4 m5 m6 m7 m8 m9 m10
            have y0 := hZ.free 0
            have y1 := hZ.free 1
            have y2 := hZ.free 2
            have y3 := hZ.free 3
            have y4 := hZ.free 4
            have y5 := hZ.free 5
            have y6 := hZ.free 6
            have y7 := hZ.free 7
            have y8 := hZ.free 8
            have y9 := hZ.free 9
            have y10 := hZ.free 10
            obtain ⟨⟨k0, k1, k2, k3⟩, ⟨k4, k5, k6, k7⟩, k8, k9, k10⟩ := ml_cells' hwh
            unfold ml11 at k0 k1 k2 k3 k4 k5 k6 k7 k8 k9 k10
            simp only at k0 k1 k2 k3 k4 k5 k6 k7 k8 k9 k10
            clear hwh hZ
            go_wp2_with fail
            refine bodyPost_ret (v := .tuple #[mlV ml0 (.slice none 0 0) (.slice none 0 0), .bool false]) (by simp [results, Try.results7, go_sem, k0, k1, k2, k3, k4, k5, k6, k7, k8, k9, k10]) rfl ?_
            exact ⟨none, 0, 0, none, 0, 0, by rfl, mail_none _, HBl.out⟩
          | true =>
            obtain rfl : res = some ⟨fr, tg, clk, L, ht, ha, hm, asks, tr, ph, (List.range M).map fun i => (rdX s4 (2 * i), rdX s4 (2 * i + 1))⟩ := Hgo.out.trans (if_pos (by refine ⟨?_, HzE.out, of_decide_eq_true Hokm.out⟩; first | rfl | trivial))
            have hZ := HSE2.out.res
            have hX := HSE2.out.ml
            have hbl := ml11_below (x := ⟨fr, tg, clk, L, ht, ha, hm, asks, tr, ph, (List.range M).map fun i => (rdX s4 (2 * i), rdX s4 (2 * i + 1))⟩) (rv := .slice A l C) (ev := .slice (some ⟨z, 0, none⟩) M M) (g := w.heap.size + 1) Hb2.out (by omega)
            have hwh := ml11_whole (x := ⟨fr, tg, clk, L, ht, ha, hm, asks, tr, ph, (List.range M).map fun i => (rdX s4 (2 * i), rdX s4 (2 * i + 1))⟩) (rv := .slice A l C) (ev := .slice (some ⟨z, 0, none⟩) M M) hZ
            have hfar := ml11_far (x := ⟨fr, tg, clk, L, ht, ha, hm, asks, tr, ph, (List.range M).map fun i => (rdX s4 (2 * i), rdX s4 (2 * i + 1))⟩) (rv := .slice A l C) (ev := .slice (some ⟨z, 0, none⟩) M M) (g := w.heap.size + 1) (HF.out.later hb12) (by have := HSE2.out.low; omega)
            have hlk : Looks (ml11 w12 (w.heap.size + 1) ⟨fr, tg, clk, L, ht, ha, hm, asks, tr, ph, (List.range M).map fun i => (rdX s4 (2 * i), rdX s4 (2 * i + 1))⟩ (.slice A l C) (.slice (some ⟨z, 0, none⟩) M M)) (.slice (some ⟨z, 0, none⟩) M M) ((List.range M).map fun i => (rdX s4 (2 * i), rdX s4 (2 * i + 1))) :=
              HE.out.looks (by omega) (ml11_other HSE2.out.ec (by have := HSE2.out.low; omega))
            have HBl := Lib.hid hbl
            have HFar := Lib.hid hfar
            have HLk := Lib.hid hlk
            clear hbl hfar hlk m0 m1 m2 m3 m4 m5 m6 m7 m8 m9 m10 d0 d1 d2 d3 d4 d5 c0 c1
            obtain ⟨⟨m0, m1, m2, m3⟩, ⟨m4, m5, m6, m7⟩, m8, m9, m10⟩ := ml_cells' hZ
            obtain ⟨⟨n0, n1, n2, n3'⟩, ⟨n4, n5, n6, n7⟩, n8, n9, n10⟩ := ml_cells' hX
            simp only at m0 m1 m2 m3 m4 m5 m6 m7 m8 m9 m10 n0 n1 n2 n3' n4 n5 n6 n7 n8 n9 n10
            have y0 := hZ.free 0
            have y1 := hZ.free 1
            have y2 := hZ.free 2
            have y3 := hZ.free 3
            have y4 := hZ.free 4
            have y5 := hZ.free 5
            have y6 := hZ.free 6
            have y7 := hZ.free 7
            have y8 := hZ.free 8
            have y9 := hZ.free 9
            have y10 := hZ.free 10
            obtain ⟨⟨k0, k1, k2, k3⟩, ⟨k4, k5, k6, k7⟩, k8, k9, k10⟩ := ml_cells' hwh
            unfold ml11 at k0 k1 k2 k3 k4 k5 k6 k7 k8 k9 k10
            simp only at k0 k1 k2 k3 k4 k5 k6 k7 k8 k9 k10
            clear hwh hZ hX
            go_wp2_with fail
            refine bodyPost_ret (v := .tuple #[mlV ⟨fr, tg, clk, L, ht, ha, hm, asks, tr, ph, (List.range M).map fun i => (rdX s4 (2 * i), rdX s4 (2 * i + 1))⟩ (.slice A l C) (.slice (some ⟨z, 0, none⟩) M M), .bool true]) (by simp [results, Try.results7, go_sem, k0, k1, k2, k3, k4, k5, k6, k7, k8, k9, k10]) rfl ?_
            exact ⟨A, l, C, some ⟨z, 0, none⟩, M, M, by rfl, ⟨Hl.out.symm, HFar.out.1, by simp, HLk.out⟩, HBl.out⟩
end Go.Proofs.Ytfpadcfahfanoaa
