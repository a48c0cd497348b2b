/- Package claim, walked: may a message be. No law is proved here. -/
import Derived.Test.YtfpadcfahfanoaaMg31
import Derived.Test.YtfpadcfahfanoaaMg20
import Derived.Test.YtfpadcfahfanoaaMg24
import Derived.WalkSmall
namespace Go.Proofs.Ytfpadcfahfanoaa
open Go.RowKit

/-- may the looks of a message be? -/
def echoOk (c : Cf) (x : Ml) : Prop := (x.echo.length : Int) = c.n ∧ lkAt x.echo x.fr.toNat = (0, 0) ∧ ∀ i, i < x.echo.length → lookB (lkAt x.echo i).1 (lkAt x.echo i).2 = true
instance (c : Cf) (x : Ml) : Decidable (echoOk c x) := by unfold echoOk; exact inferInstance
def echoB (c : Cf) (x : Ml) : Bool := decide (echoOk c x)
theorem mail_parts {c : Cf} {x : Ml} (h1 : rightOk c x.rows) (h2 : 0 ≤ x.fr ∧ x.fr < c.n) (h3 : 0 ≤ x.to ∧ x.to < c.n) (h4 : x.fr ≠ x.to) (h5 : ¬ x.clk < 1) (h6 : noteB c x.fr (noteOf x) = true) : mailB c x = echoB c x := by
  unfold mailB echoB
  rw [decide_eq_decide]
  constructor
  · rintro ⟨_, _, _, _, _, g1, g2, _⟩
    refine ⟨g1, ?_, fun i hi => (g2 i hi).1⟩
    obtain ⟨g3, g4⟩ := g2 x.fr.toNat (by omega)
    have g5 : ¬ 0 < (lkAt x.echo x.fr.toNat).2 := g4 (by omega)
    have g6 : lookOk (lkAt x.echo x.fr.toNat).1 (lkAt x.echo x.fr.toNat).2 := of_decide_eq_true g3
    rcases g6 with g6 | g6
    · exact Prod.ext g6.1 g6.2
    · exact absurd g6.2.2.1 g5
  · rintro ⟨g1, g2, g3⟩
    refine ⟨h1, h2, h3, h4, by omega, g1, fun i hi => ⟨g3 i hi, fun hf => ?_⟩, h6⟩
    have e : x.fr.toNat = i := by omega
    rw [e] at g2
    rw [g2]
    decide
theorem mail_clk {c : Cf} {x : Ml} (h : mailOk c x) : ¬ x.clk < 1 := by
  have h1 := h.2.2.2.2.1
  have h2 := h.2.2.2.2.2.2.2
  rw [noteB_parts] at h2
  simp only [Bool.and_eq_true] at h2
  have h3 : 0 ≤ x.clk ∧ x.clk ≤ 1125899906842624 := of_decide_eq_true h2.1
  omega
theorem echoB_no {c : Cf} {x : Ml} (h : ¬ echoOk c x) : echoB c x = false := decide_eq_false h
set_option maxRecDepth 100000 in
set_option maxHeartbeats 8000000 in
theorem echoes_calls (c : Cf) (x : Ml) (a1 : Option Addr) (m1 c1 : Nat) (a2 : Option Addr) (m2 c2 : Nat) (hf1 : 0 ≤ x.fr) (hf2 : x.fr < c.n) (hn16 : c.n ≤ 16) (w : World) (hM : MailIn w a1 m1 c1 a2 m2 c2 x) :
    Calls Try.prog 42 #[cfV c, mlV x (.slice a1 m1 c1) (.slice a2 m2 c2)] w (Says w (echoB c x)) := by
  obtain ⟨hm1, hB1, hm2, hB2⟩ := hM
  clear hm1 hB1
  have hbig2 : m2 ≤ 9223372036854775807 := by rw [hm2]; exact hB2.1
  have HK1 : Hid (KeptM w w.heap.size c x (.slice a1 m1 c1) (.slice a2 m2 c2) ((w.alloc (.cells (cfCells c) 23)).alloc (.cells (mlCells x (.slice a1 m1 c1) (.slice a2 m2 c2)) 35))) :=
    ⟨below_two w _ _, (Whole.made w _ _).alloc _, Whole.made2 w _ _ _⟩
  have HB2 := Lib.hid hB2; clear hB2
  have Hm2 := Lib.hid hm2; clear hm2
  obtain ⟨n, q, r, p, kk, cc⟩ := c
  obtain ⟨fr, tg, clk, rows, t, a, m, asks, try_, ph, echo⟩ := x
  obtain ⟨res, Hres⟩ : ∃ z, Hid (echoB ⟨n, q, r, p, kk, cc⟩ ⟨fr, tg, clk, rows, t, a, m, asks, try_, ph, echo⟩ = z) := ⟨_, rfl⟩
  have no : ¬ echoOk ⟨n, q, r, p, kk, cc⟩ ⟨fr, tg, clk, rows, t, a, m, asks, try_, ph, echo⟩ → res = false := fun h => Hres.out.symm.trans (echoB_no h)
  have No := Lib.hid no; clear no
  rw [Hres.out]
  simp only at hf1 hf2 hn16
  go_enter Try.func42, Try.ntmps42
  by_cases h1 : (m2 : Int) = n
  rotate_left 1
  · have h1' : ((m2 : Int) != n) = true := bne_iff_ne.2 h1
    obtain rfl : res = false := No.out fun h => h1 (by have h9 := h.1; rw [Hm2.out]; exact h9)
    clear h1
    go_wp2_with fail
    go_ret
    exact ⟨by rfl, HK1.out.1⟩
  subst h1
  obtain ⟨b, off, rfl, g0, g1⟩ := HB2.out.at (i := fr.toNat) (by have := Hm2.out; omega)
  obtain ⟨y, Hy⟩ : ∃ z, Hid (lkAt echo fr.toNat = z) := ⟨_, rfl⟩
  rw [Hy.out] at g0 g1
  obtain ⟨y1, y2⟩ := y
  simp only at g0 g1
  have hbl := World.block_lt_of_cell? w _ g0
  simp only at hbl
  obtain ⟨z, Hz⟩ : ∃ z, Hid ((!decide (y1 = 0 ∧ y2 = 0)) = z) := ⟨_, rfl⟩
  have heq : ∀ w : World, (binOp .neq 32 (.agg #[.int .i64 y1, .int .i64 y2]) (.agg #[.int .i64 0, .int .i64 0])).run Try.prog w = .ok (.bool z) w := fun w => (run_neq_lk w y1 y2 0 0).trans (by rw [← Hz.out])
  cases z with
  | true =>
    obtain rfl : res = false := No.out fun h => by
      have h9 : lkAt echo fr.toNat = (0, 0) := h.2.1
      rw [Hy.out] at h9
      have h8 := Hz.out
      have e1 : y1 = 0 := congrArg Prod.fst h9
      have e2 : y2 = 0 := congrArg Prod.snd h9
      rw [e1, e2] at h8
      simp at h8
    go_wp2_with fail
    go_ret
    exact ⟨by rfl, HK1.out.1⟩
  | false =>
  have Hfr : Hid (lkAt echo fr.toNat = (0, 0)) := by
    have h8 := Hz.out
    simp only [Bool.not_eq_false', decide_eq_true_eq] at h8
    show _ = _
    rw [Hy.out, h8.1, h8.2]
  go_wp2_with fail
  clear g0 g1 heq
  go_loopw [26] (fun s5 wr => ∃ k : Nat, k ≤ m2 ∧ s5 = .int .i64 k ∧ Hid (∀ i, i < k → lookB (lkAt echo i).1 (lkAt echo i).2 = true) ∧ Hid (Below w.heap.size w wr)) (fun s5 _ => m2 - (intOf s5).toNat)
  case atStart => exact ⟨0, Nat.zero_le _, rfl, fun z hz => absurd hz (Nat.not_lt_zero _), HK1.out.1⟩
  case round =>
    obtain ⟨k, hk, rfl, Hl, Hb⟩ := hrel
    by_cases hlt : k < m2
    · obtain ⟨b9, off9, hsame, g0, g1⟩ := (HB2.out.later Hb.out).at (i := k) (by have := Hm2.out; omega)
      simp only [Option.some.injEq, Addr.mk.injEq] at hsame
      obtain ⟨rfl, rfl, _⟩ := hsame
      obtain ⟨x, Hx⟩ : ∃ z, Hid (lkAt echo k = z) := ⟨_, rfl⟩
      rw [Hx.out] at g0 g1
      obtain ⟨x1, x2⟩ := x
      simp only at g0 g1
      obtain ⟨v, Hv⟩ : ∃ z, Hid (lookB x1 x2 = z) := ⟨_, rfl⟩
      have hbx := below_box wr (.cells #[.int .i64 x1, .int .i64 x2] 32)
      have Hbx := Lib.hid (held_next Hb.out hbx)
      clear hbx
      have k0 : (0 : Int) ≤ (k : Int) := by omega
      have k1 : (k : Int) < (m2 : Int) := by omega
      go_wp2_with fail
      refine (looks_calls x1 x2 _).mono ?_
      rw [Hv.out]
      rintro e w3 ⟨rfl, hb⟩
      have Hb3 := Lib.hid (held_next Hbx.out hb)
      clear hb
      cases v with
      | false =>
        obtain rfl : res = false := No.out fun h => by
          have h9 : lookB (lkAt echo k).1 (lkAt echo k).2 = true := h.2.2 k (by have := Hm2.out; show k < echo.length; omega)
          rw [Hx.out, Hv.out] at h9
          cases h9
        go_wp2_with fail
        go_ret
        exact ⟨by rfl, Hb3.out⟩
      | true =>
        go_wp2_with fail
        go_roundw
        case rel => exact ⟨k + 1, by omega, by go_num, (fun z hz => by
          by_cases e : z = k
          · subst e; rw [Hx.out]; exact Hv.out
          · exact Hl.out z (by omega)), Hb3.out⟩
        case measure => simp [intOf]; omega
    · obtain rfl : res = true := Hres.out.symm.trans (decide_eq_true ⟨by show (echo.length : Int) = m2; rw [← Hm2.out], Hfr.out, fun i hi => Hl.out i (by have := Hm2.out; have hi2 : i < echo.length := hi; omega)⟩)
      go_wp2_with fail
      go_ret
      exact ⟨by rfl, Hb.out⟩
set_option maxRecDepth 100000 in
set_option maxHeartbeats 8000000 in
theorem cMayMail_calls (c : Cf) (x : Ml) (a1 : Option Addr) (m1 c1 : Nat) (a2 : Option Addr) (m2 c2 : Nat) (w : World) (hM : MailIn w a1 m1 c1 a2 m2 c2 x) :
    Calls Try.prog 19 #[cfV c, mlV x (.slice a1 m1 c1) (.slice a2 m2 c2)] w (Says w (mailB c x)) := by
  have HM := Lib.hid hM
  obtain ⟨hm1, hB1, hm2, hB2⟩ := hM
  have hbig1 : m1 ≤ 9223372036854775807 := by rw [hm1]; exact hB1.big
  have hbig2 : m2 ≤ 9223372036854775807 := by rw [hm2]; exact hB2.1
  have HK : Hid (KeptM w w.heap.size c x (.slice a1 m1 c1) (.slice a2 m2 c2) ((w.alloc (.cells (cfCells c) 23)).alloc (.cells (mlCells x (.slice a1 m1 c1) (.slice a2 m2 c2)) 35))) :=
    ⟨below_two w _ _, (Whole.made w _ _).alloc _, Whole.made2 w _ _ _⟩
  have HB1 := Lib.hid hB1; clear hB1
  have Hm1 := Lib.hid hm1; clear hm1
  clear hB2 hm2
  obtain ⟨n, q, r, p, kk, cc⟩ := c
  obtain ⟨fr, tg, clk, rows, t, a, m, asks, try_, ph, echo⟩ := x
  obtain ⟨res, Hres⟩ : ∃ z, Hid (mailB ⟨n, q, r, p, kk, cc⟩ ⟨fr, tg, clk, rows, t, a, m, asks, try_, ph, echo⟩ = z) := ⟨_, rfl⟩
  have no : ¬ mailOk ⟨n, q, r, p, kk, cc⟩ ⟨fr, tg, clk, rows, t, a, m, asks, try_, ph, echo⟩ → res = false := fun h => Hres.out.symm.trans (mailB_no h)
  have No := Lib.hid no; clear no
  rw [Hres.out]
  obtain ⟨ok, Hok⟩ : ∃ z, Hid (rightB ⟨n, q, r, p, kk, cc⟩ rows = z) := ⟨_, rfl⟩
  obtain ⟨am1, Ham1⟩ : ∃ z, Hid (decide (0 ≤ fr ∧ fr < n) = z) := ⟨_, rfl⟩
  obtain ⟨am2, Ham2⟩ : ∃ z, Hid (decide (0 ≤ tg ∧ tg < n) = z) := ⟨_, rfl⟩
  go_enter Try.func19, Try.ntmps19
  go_wp2_with fail
  refine (rRight_calls ⟨n, q, r, p, kk, cc⟩ a1 m1 c1 rows Hm1.out _ (HB1.out.later HK.out.1)).mono ?_
  rintro e w1 ⟨rfl, hb⟩
  rw [Hok.out]
  have HK1 := Lib.hid (HK.out.later hb)
  clear hb HK
  obtain ⟨d0, d1, d2, d3, d4, d5⟩ := config_cells HK1.out.2.1
  obtain ⟨e0, e1, e2, e3, e4, e5, e6, e7, e8, e9, e10⟩ := ml_cells HK1.out.2.2
  simp only at d0 d1 d2 d3 d4 d5 e0 e1 e2 e3 e4 e5 e6 e7 e8 e9 e10
  cases ok with
  | false =>
    obtain rfl : res = false := No.out fun h => by
      have : rightB ⟨n, q, r, p, kk, cc⟩ rows = true := decide_eq_true h.1
      rw [Hok.out] at this
      cases this
    go_wp2_with fail
    go_ret
    exact ⟨by rfl, HK1.out.1⟩
  | true =>
  go_wp2_with fail
  refine (amongc_calls ⟨n, q, r, p, kk, cc⟩ fr _).mono ?_
  rintro e w2 ⟨rfl, hb⟩
  rw [show decide (0 ≤ fr ∧ fr < (Cf.mk n q r p kk cc).n) = am1 from Ham1.out]
  have HK2 := Lib.hid (HK1.out.later hb)
  clear hb HK1
  clear d0 d1 d2 d3 d4 d5 e0 e1 e2 e3 e4 e5 e6 e7 e8 e9 e10
  obtain ⟨d0, d1, d2, d3, d4, d5⟩ := config_cells HK2.out.2.1
  obtain ⟨e0, e1, e2, e3, e4, e5, e6, e7, e8, e9, e10⟩ := ml_cells HK2.out.2.2
  simp only at d0 d1 d2 d3 d4 d5 e0 e1 e2 e3 e4 e5 e6 e7 e8 e9 e10
  cases am1 with
  | false =>
    obtain rfl : res = false := No.out fun h => (of_decide_eq_false Ham1.out) h.2.1
    go_wp2_with fail
    go_ret
    exact ⟨by first | rfl | (simp; done) | (simp; omega), HK2.out.1⟩
  | true =>
  go_wp2_with fail
  refine (amongc_calls ⟨n, q, r, p, kk, cc⟩ tg _).mono ?_
  rintro e w3 ⟨rfl, hb⟩
  rw [show decide (0 ≤ tg ∧ tg < (Cf.mk n q r p kk cc).n) = am2 from Ham2.out]
  have HK3 := Lib.hid (HK2.out.later hb)
  clear hb HK2
  clear d0 d1 d2 d3 d4 d5 e0 e1 e2 e3 e4 e5 e6 e7 e8 e9 e10
  obtain ⟨d0, d1, d2, d3, d4, d5⟩ := config_cells HK3.out.2.1
  obtain ⟨e0, e1, e2, e3, e4, e5, e6, e7, e8, e9, e10⟩ := ml_cells HK3.out.2.2
  simp only at d0 d1 d2 d3 d4 d5 e0 e1 e2 e3 e4 e5 e6 e7 e8 e9 e10
  cases am2 with
  | false =>
    obtain rfl : res = false := No.out fun h => (of_decide_eq_false Ham2.out) h.2.2.1
    go_wp2_with fail
    go_ret
    exact ⟨by first | rfl | (simp; done) | (simp; omega), HK3.out.1⟩
  | true =>
  by_cases h5 : fr = tg
  · obtain rfl : res = false := No.out fun h => h.2.2.2.1 h5
    subst h5
    go_wp2_with fail
    go_ret
    exact ⟨by rfl, HK3.out.1⟩
  have h5' : (fr == tg) = false := beq_eq_false_iff_ne.2 h5
  have H5 := Lib.hid h5; clear h5
  have Hfr := Lib.hid (of_decide_eq_true Ham1.out)
  have Htg := Lib.hid (of_decide_eq_true Ham2.out)
  have Hro := Lib.hid (rightB_ok Hok.out)
  obtain ⟨w4, hw4⟩ : ∃ z, z = w3 := ⟨_, rfl⟩
  subst hw4
  have KP : Hid (∀ w', Below w4.heap.size w4 w' → (fun w' => Below w4.heap.size w4 w' ∧ (w'.cell? ⟨w.heap.size, 0, none⟩ = some (.int .i64 n) ∧ w'.cell? ⟨w.heap.size, 1, none⟩ = some (.int .i64 q) ∧ w'.cell? ⟨w.heap.size, 2, none⟩ = some (.int .i64 r) ∧ w'.cell? ⟨w.heap.size, 3, none⟩ = some (.int .i64 p) ∧ w'.cell? ⟨w.heap.size, 4, none⟩ = some (.int .i64 kk) ∧ w'.cell? ⟨w.heap.size, 5, none⟩ = some (.int .i64 cc)) ∧ (w'.cell? ⟨w.heap.size + 1, 0, none⟩ = some (.int .i64 fr) ∧ w'.cell? ⟨w.heap.size + 1, 1, none⟩ = some (.int .i64 tg) ∧ w'.cell? ⟨w.heap.size + 1, 2, none⟩ = some (.int .i64 clk) ∧ w'.cell? ⟨w.heap.size + 1, 3, none⟩ = some (.slice a1 m1 c1) ∧ w'.cell? ⟨w.heap.size + 1, 4, none⟩ = some (.int .i64 t) ∧ w'.cell? ⟨w.heap.size + 1, 5, none⟩ = some (.int .i64 a) ∧ w'.cell? ⟨w.heap.size + 1, 6, none⟩ = some (.int .i64 m) ∧ w'.cell? ⟨w.heap.size + 1, 7, none⟩ = some (.int .i64 asks) ∧ w'.cell? ⟨w.heap.size + 1, 8, none⟩ = some (.int .i64 try_) ∧ w'.cell? ⟨w.heap.size + 1, 9, none⟩ = some (.int .i64 ph) ∧ w'.cell? ⟨w.heap.size + 1, 10, none⟩ = some (.slice a2 m2 c2))) w') :=
    fun w' h => ⟨h, config_cells (HK3.out.later h).2.1, ml_cells (HK3.out.later h).2.2⟩
  by_cases h6 : clk < 1
  · have s1 : decide (clk < 1) = true := decide_eq_true h6
    obtain rfl : res = false := No.out fun h => mail_clk h h6
    have H6 := Lib.hid h6; clear h6
    go_wp2_with fail
    refine wp_region_held_drew (S := (fun w' => Below w4.heap.size w4 w' ∧ (w'.cell? ⟨w.heap.size, 0, none⟩ = some (.int .i64 n) ∧ w'.cell? ⟨w.heap.size, 1, none⟩ = some (.int .i64 q) ∧ w'.cell? ⟨w.heap.size, 2, none⟩ = some (.int .i64 r) ∧ w'.cell? ⟨w.heap.size, 3, none⟩ = some (.int .i64 p) ∧ w'.cell? ⟨w.heap.size, 4, none⟩ = some (.int .i64 kk) ∧ w'.cell? ⟨w.heap.size, 5, none⟩ = some (.int .i64 cc)) ∧ (w'.cell? ⟨w.heap.size + 1, 0, none⟩ = some (.int .i64 fr) ∧ w'.cell? ⟨w.heap.size + 1, 1, none⟩ = some (.int .i64 tg) ∧ w'.cell? ⟨w.heap.size + 1, 2, none⟩ = some (.int .i64 clk) ∧ w'.cell? ⟨w.heap.size + 1, 3, none⟩ = some (.slice a1 m1 c1) ∧ w'.cell? ⟨w.heap.size + 1, 4, none⟩ = some (.int .i64 t) ∧ w'.cell? ⟨w.heap.size + 1, 5, none⟩ = some (.int .i64 a) ∧ w'.cell? ⟨w.heap.size + 1, 6, none⟩ = some (.int .i64 m) ∧ w'.cell? ⟨w.heap.size + 1, 7, none⟩ = some (.int .i64 asks) ∧ w'.cell? ⟨w.heap.size + 1, 8, none⟩ = some (.int .i64 try_) ∧ w'.cell? ⟨w.heap.size + 1, 9, none⟩ = some (.int .i64 ph) ∧ w'.cell? ⟨w.heap.size + 1, 10, none⟩ = some (.slice a2 m2 c2)))) (by kernel_rfl) (KP.out _ (Below.refl _ _).drew) (fun hHeld => ?_)
    refine wpAnyH_take (i := 0) (oi := ⟨some 31, _, _, _, _, _⟩) (v := ?_) rfl (by kernel_rfl) (by kernel_rfl) (by kernel_rfl) (fun _ _ _ h => h) (Or.inl ⟨by rfl, ?_⟩) (by assumption) ?_
    rotate_left 1
    · intro w hSw
      try dsimp only at hSw
      go_simp
      try with_reducible rfl
    simp only [Act.put, List.setIfInBounds_toArray, List.set_cons_zero, List.set_cons_succ]
    refine wpAnyH_take (i := 1) (oi := ⟨some 32, _, _, _, _, _⟩) (v := ?_) rfl (by kernel_rfl) (by kernel_rfl) (by kernel_rfl) (fun _ _ _ h => h) (Or.inl ⟨by rfl, ?_⟩) (by assumption) ?_
    rotate_left 1
    · intro w hSw
      try dsimp only at hSw
      go_simp
      try with_reducible rfl
    simp only [Act.put, List.setIfInBounds_toArray, List.set_cons_zero, List.set_cons_succ]
    refine wpAnyH_take (i := 2) (oi := ⟨some 33, _, _, _, _, _⟩) (v := ?_) rfl (by kernel_rfl) (by kernel_rfl) (by kernel_rfl) (fun _ _ _ h => h) (Or.inl ⟨by rfl, ?_⟩) (by assumption) ?_
    rotate_left 1
    · intro w hSw
      try dsimp only at hSw
      go_simp
      try simp only [s1]
      try with_reducible rfl
    simp only [Act.put, List.setIfInBounds_toArray, List.set_cons_zero, List.set_cons_succ]
    refine wpAnyH_take (i := 3) (oi := ⟨some 34, _, _, _, _, _⟩) (v := ?_) rfl (by kernel_rfl) (by kernel_rfl) (by kernel_rfl) (fun _ _ _ h => h) (Or.inl ⟨by rfl, ?_⟩) (by assumption) ?_
    rotate_left 1
    · intro w hSw
      try dsimp only at hSw
      go_simp
      try simp only [s1]
      try with_reducible rfl
    simp only [Act.put, List.setIfInBounds_toArray, List.set_cons_zero, List.set_cons_succ]
    refine wpAnyH_take (i := 4) (oi := ⟨some 35, _, _, _, _, _⟩) (v := undef) rfl (by kernel_rfl) (by kernel_rfl) (by kernel_rfl) (fun _ _ _ h => h) (Or.inr ⟨by rfl, rfl⟩) (by assumption) ?_
    simp only [Act.put, List.setIfInBounds_toArray, List.set_cons_zero, List.set_cons_succ]
    refine wpAnyH_take (i := 5) (oi := ⟨some 36, _, _, _, _, _⟩) (v := undef) rfl (by kernel_rfl) (by kernel_rfl) (by kernel_rfl) (fun _ _ _ h => h) (Or.inr ⟨by rfl, rfl⟩) (by assumption) ?_
    simp only [Act.put, List.setIfInBounds_toArray, List.set_cons_zero, List.set_cons_succ]
    refine wpAnyH_take (i := 6) (oi := ⟨some 37, _, _, _, _, _⟩) (v := undef) rfl (by kernel_rfl) (by kernel_rfl) (by kernel_rfl) (fun _ _ _ h => h) (Or.inr ⟨by rfl, rfl⟩) (by assumption) ?_
    simp only [Act.put, List.setIfInBounds_toArray, List.set_cons_zero, List.set_cons_succ]
    refine wpAnyH_take (i := 7) (oi := ⟨some 38, _, _, _, _, _⟩) (v := undef) rfl (by kernel_rfl) (by kernel_rfl) (by kernel_rfl) (fun _ _ _ h => h) (Or.inr ⟨by rfl, rfl⟩) (by assumption) ?_
    simp only [Act.put, List.setIfInBounds_toArray, List.set_cons_zero, List.set_cons_succ]
    refine wpAnyH_take (i := 8) (oi := ⟨some 39, _, _, _, _, _⟩) (v := undef) rfl (by kernel_rfl) (by kernel_rfl) (by kernel_rfl) (fun _ _ _ h => h) (Or.inr ⟨by rfl, rfl⟩) (by assumption) ?_
    simp only [Act.put, List.setIfInBounds_toArray, List.set_cons_zero, List.set_cons_succ]
    refine wpAnyH_take (i := 9) (oi := ⟨some 40, _, _, _, _, _⟩) (v := undef) rfl (by kernel_rfl) (by kernel_rfl) (by kernel_rfl) (fun _ _ _ h => h) (Or.inr ⟨by rfl, rfl⟩) (by assumption) ?_
    simp only [Act.put, List.setIfInBounds_toArray, List.set_cons_zero, List.set_cons_succ]
    refine wpAnyH_take (i := 10) (oi := ⟨some 41, _, _, _, _, _⟩) (v := undef) rfl (by kernel_rfl) (by kernel_rfl) (by kernel_rfl) (fun _ _ _ h => h) (Or.inr ⟨by rfl, rfl⟩) (by assumption) ?_
    simp only [Act.put, List.setIfInBounds_toArray, List.set_cons_zero, List.set_cons_succ]
    refine wpAnyH_take (i := 11) (oi := ⟨some 42, _, _, _, _, _⟩) (v := undef) rfl (by kernel_rfl) (by kernel_rfl) (by kernel_rfl) (fun _ _ _ h => h) (Or.inr ⟨by rfl, rfl⟩) (by assumption) ?_
    simp only [Act.put, List.setIfInBounds_toArray, List.set_cons_zero, List.set_cons_succ]
    refine wpAnyH_take (i := 12) (oi := ⟨some 43, _, _, _, _, _⟩) (v := ?_) rfl (by kernel_rfl) (by kernel_rfl) (by kernel_rfl) (fun _ _ _ h => h) (Or.inl ⟨by rfl, ?_⟩) (by assumption) ?_
    rotate_left 1
    · intro w hSw
      try dsimp only at hSw
      go_simp
      try simp only [s1]
      try with_reducible rfl
    simp only [Act.put, List.setIfInBounds_toArray, List.set_cons_zero, List.set_cons_succ]
    refine wpAnyH_done (by kernel_rfl) ?_ _
    have HK4 := Lib.hid (HK3.out.later hHeld.1)
    clear hHeld
    go_wp2_with fail
    go_ret
    exact ⟨by rfl, HK4.out.1⟩
  have s1 : decide (clk < 1) = false := decide_eq_false h6
  have H6 := Lib.hid h6; clear h6
  obtain ⟨v, Hv⟩ : ∃ z, Hid (noteB ⟨n, q, r, p, kk, cc⟩ fr ⟨clk, t, a, m, asks, try_, ph⟩ = z) := ⟨_, rfl⟩
  go_wp2_with fail
  refine wp_region_held_drew (S := (fun w' => Below w4.heap.size w4 w' ∧ (w'.cell? ⟨w.heap.size, 0, none⟩ = some (.int .i64 n) ∧ w'.cell? ⟨w.heap.size, 1, none⟩ = some (.int .i64 q) ∧ w'.cell? ⟨w.heap.size, 2, none⟩ = some (.int .i64 r) ∧ w'.cell? ⟨w.heap.size, 3, none⟩ = some (.int .i64 p) ∧ w'.cell? ⟨w.heap.size, 4, none⟩ = some (.int .i64 kk) ∧ w'.cell? ⟨w.heap.size, 5, none⟩ = some (.int .i64 cc)) ∧ (w'.cell? ⟨w.heap.size + 1, 0, none⟩ = some (.int .i64 fr) ∧ w'.cell? ⟨w.heap.size + 1, 1, none⟩ = some (.int .i64 tg) ∧ w'.cell? ⟨w.heap.size + 1, 2, none⟩ = some (.int .i64 clk) ∧ w'.cell? ⟨w.heap.size + 1, 3, none⟩ = some (.slice a1 m1 c1) ∧ w'.cell? ⟨w.heap.size + 1, 4, none⟩ = some (.int .i64 t) ∧ w'.cell? ⟨w.heap.size + 1, 5, none⟩ = some (.int .i64 a) ∧ w'.cell? ⟨w.heap.size + 1, 6, none⟩ = some (.int .i64 m) ∧ w'.cell? ⟨w.heap.size + 1, 7, none⟩ = some (.int .i64 asks) ∧ w'.cell? ⟨w.heap.size + 1, 8, none⟩ = some (.int .i64 try_) ∧ w'.cell? ⟨w.heap.size + 1, 9, none⟩ = some (.int .i64 ph) ∧ w'.cell? ⟨w.heap.size + 1, 10, none⟩ = some (.slice a2 m2 c2)))) (by kernel_rfl) (KP.out _ (Below.refl _ _).drew) (fun hHeld => ?_)
  refine wpAnyH_take (i := 0) (oi := ⟨some 31, _, _, _, _, _⟩) (v := ?_) rfl (by kernel_rfl) (by kernel_rfl) (by kernel_rfl) (fun _ _ _ h => h) (Or.inl ⟨by rfl, ?_⟩) (by assumption) ?_
  rotate_left 1
  · intro w hSw
    try dsimp only at hSw
    go_simp
    try with_reducible rfl
  simp only [Act.put, List.setIfInBounds_toArray, List.set_cons_zero, List.set_cons_succ]
  refine wpAnyH_take (i := 1) (oi := ⟨some 32, _, _, _, _, _⟩) (v := ?_) rfl (by kernel_rfl) (by kernel_rfl) (by kernel_rfl) (fun _ _ _ h => h) (Or.inl ⟨by rfl, ?_⟩) (by assumption) ?_
  rotate_left 1
  · intro w hSw
    try dsimp only at hSw
    go_simp
    try with_reducible rfl
  simp only [Act.put, List.setIfInBounds_toArray, List.set_cons_zero, List.set_cons_succ]
  refine wpAnyH_take (i := 2) (oi := ⟨some 33, _, _, _, _, _⟩) (v := ?_) rfl (by kernel_rfl) (by kernel_rfl) (by kernel_rfl) (fun _ _ _ h => h) (Or.inl ⟨by rfl, ?_⟩) (by assumption) ?_
  rotate_left 1
  · intro w hSw
    try dsimp only at hSw
    go_simp
    try simp only [s1]
    try with_reducible rfl
  simp only [Act.put, List.setIfInBounds_toArray, List.set_cons_zero, List.set_cons_succ]
  refine wpAnyH_take (i := 3) (oi := ⟨some 34, _, _, _, _, _⟩) (v := ?_) rfl (by kernel_rfl) (by kernel_rfl) (by kernel_rfl) (fun _ _ _ h => h) (Or.inl ⟨by rfl, ?_⟩) (by assumption) ?_
  rotate_left 1
  · intro w hSw
    try dsimp only at hSw
    go_simp
    try simp only [s1]
    try with_reducible rfl
  simp only [Act.put, List.setIfInBounds_toArray, List.set_cons_zero, List.set_cons_succ]
  refine wpAnyH_take (i := 4) (oi := ⟨some 35, _, _, _, _, _⟩) (v := ?_) rfl (by kernel_rfl) (by kernel_rfl) (by kernel_rfl) (fun _ _ _ h => h) (Or.inl ⟨by rfl, ?_⟩) (by assumption) ?_
  rotate_left 1
  · intro w hSw
    try dsimp only at hSw
    go_simp
    try with_reducible rfl
  simp only [Act.put, List.setIfInBounds_toArray, List.set_cons_zero, List.set_cons_succ]
  refine wpAnyH_take (i := 5) (oi := ⟨some 36, _, _, _, _, _⟩) (v := ?_) rfl (by kernel_rfl) (by kernel_rfl) (by kernel_rfl) (fun _ _ _ h => h) (Or.inl ⟨by rfl, ?_⟩) (by assumption) ?_
  rotate_left 1
  · intro w hSw
    try dsimp only at hSw
    go_simp
    try with_reducible rfl
  simp only [Act.put, List.setIfInBounds_toArray, List.set_cons_zero, List.set_cons_succ]
  refine wpAnyH_take (i := 6) (oi := ⟨some 37, _, _, _, _, _⟩) (v := ?_) rfl (by kernel_rfl) (by kernel_rfl) (by kernel_rfl) (fun _ _ _ h => h) (Or.inl ⟨by rfl, ?_⟩) (by assumption) ?_
  rotate_left 1
  · intro w hSw
    try dsimp only at hSw
    go_simp
    try with_reducible rfl
  simp only [Act.put, List.setIfInBounds_toArray, List.set_cons_zero, List.set_cons_succ]
  refine wpAnyH_take (i := 7) (oi := ⟨some 38, _, _, _, _, _⟩) (v := ?_) rfl (by kernel_rfl) (by kernel_rfl) (by kernel_rfl) (fun _ _ _ h => h) (Or.inl ⟨by rfl, ?_⟩) (by assumption) ?_
  rotate_left 1
  · intro w hSw
    try dsimp only at hSw
    go_simp
    try with_reducible rfl
  simp only [Act.put, List.setIfInBounds_toArray, List.set_cons_zero, List.set_cons_succ]
  refine wpAnyH_ready (rs := [8]) (by kernel_rfl) (by simp) ?_
  refine AllReadyH.cons rfl (fun K hK => ?_) AllReadyH.nil
  go_simp
  go_wp2_with (go_at_call 41; refine (said_calls ⟨fr, tg, clk, rows, t, a, m, asks, try_, ph, echo⟩ a1 m1 c1 a2 m2 c2 _).mono ?_; rintro ee wo ⟨rfl, hb2⟩; have hS1 := held_next hHeld.1 hb2)
  refine hK.out _ _ (KP.out _ hS1) (fun hHeld2 => ?_)
  clear hHeld hK K
  have hHeld := hHeld2
  clear hHeld2
  refine wpAnyH_take (i := 9) (oi := ⟨some 40, _, _, _, _, _⟩) (v := ?_) rfl (by kernel_rfl) (by kernel_rfl) (by kernel_rfl) (fun _ _ _ h => h) (Or.inl ⟨by rfl, ?_⟩) (by assumption) ?_
  rotate_left 1
  · intro w hSw
    try dsimp only at hSw
    go_simp
    try with_reducible rfl
  simp only [Act.put, List.setIfInBounds_toArray, List.set_cons_zero, List.set_cons_succ]
  refine wpAnyH_ready (rs := [10]) (by kernel_rfl) (by simp) ?_
  refine AllReadyH.cons rfl (fun K hK => ?_) AllReadyH.nil
  go_simp
  go_wp2_with (go_at_call 40; refine (fits_calls ⟨n, q, r, p, kk, cc⟩ fr ⟨clk, t, a, m, asks, try_, ph⟩ _).mono ?_; rw [Hv.out]; rintro ee wo ⟨rfl, hb2⟩; have hS1 := held_next hHeld.1 hb2)
  refine hK.out _ _ (KP.out _ hS1) (fun hHeld2 => ?_)
  clear hHeld hK K
  have hHeld := hHeld2
  clear hHeld2
  refine wpAnyH_take (i := 11) (oi := ⟨some 42, _, _, _, _, _⟩) (v := ?_) rfl (by kernel_rfl) (by kernel_rfl) (by kernel_rfl) (fun _ _ _ h => h) (Or.inl ⟨by rfl, ?_⟩) (by assumption) ?_
  rotate_left 1
  · intro w hSw
    try dsimp only at hSw
    go_simp
    try with_reducible rfl
  simp only [Act.put, List.setIfInBounds_toArray, List.set_cons_zero, List.set_cons_succ]
  refine wpAnyH_take (i := 12) (oi := ⟨some 43, _, _, _, _, _⟩) (v := ?_) rfl (by kernel_rfl) (by kernel_rfl) (by kernel_rfl) (fun _ _ _ h => h) (Or.inl ⟨by rfl, ?_⟩) (by assumption) ?_
  rotate_left 1
  · intro w hSw
    try dsimp only at hSw
    go_simp
    try simp only [s1]
    try with_reducible rfl
  simp only [Act.put, List.setIfInBounds_toArray, List.set_cons_zero, List.set_cons_succ]
  refine wpAnyH_done (by kernel_rfl) ?_ _
  have HK4 := Lib.hid (HK3.out.later hHeld.1)
  clear hHeld KP
  obtain ⟨d0, d1, d2, d3, d4, d5⟩ := config_cells HK4.out.2.1
  obtain ⟨e0, e1, e2, e3, e4, e5, e6, e7, e8, e9, e10⟩ := ml_cells HK4.out.2.2
  simp only at d0 d1 d2 d3 d4 d5 e0 e1 e2 e3 e4 e5 e6 e7 e8 e9 e10
  cases v with
  | false =>
    obtain rfl : res = false := No.out fun h => by
      have h9 : noteB ⟨n, q, r, p, kk, cc⟩ fr ⟨clk, t, a, m, asks, try_, ph⟩ = true := h.2.2.2.2.2.2.2
      rw [Hv.out] at h9
      cases h9
    go_wp2_with fail
    go_ret
    exact ⟨by rfl, HK4.out.1⟩
  | true =>
  have hres : res = echoB ⟨n, q, r, p, kk, cc⟩ ⟨fr, tg, clk, rows, t, a, m, asks, try_, ph, echo⟩ := Hres.out.symm.trans (mail_parts Hro.out Hfr.out Htg.out H5.out (by have := H6.out; show ¬ clk < 1; omega) Hv.out)
  have Hr := Lib.hid hres; clear hres
  go_wp2_with fail
  refine (echoes_calls ⟨n, q, r, p, kk, cc⟩ ⟨fr, tg, clk, rows, t, a, m, asks, try_, ph, echo⟩ a1 m1 c1 a2 m2 c2 Hfr.out.1 Hfr.out.2 Hro.out.1.2.1 _ (HM.out.later HK4.out.1)).mono ?_
  rw [← Hr.out]
  rintro e w5 ⟨rfl, hb⟩
  have HK5 := Lib.hid (HK4.out.later hb)
  clear hb
  go_wp2_with fail
  go_ret
  exact ⟨by rfl, HK5.out.1⟩
end Go.Proofs.Ytfpadcfahfanoaa
