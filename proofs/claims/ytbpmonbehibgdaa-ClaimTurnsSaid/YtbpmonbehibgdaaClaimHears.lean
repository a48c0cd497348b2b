/- Law ClaimHears, walked: any notes and any message may be, and any message is heard, as the document says, or refused. The law itself is stated in ClaimCards. -/
import Derived.Test.YtbpmonbehibgdaaClaimAwake
import Derived.Deep.RegionHeld3
namespace Go.Proofs.Ytbpmonbehibgdaa
open Go.RowKit

attribute [local go_sem ↓] run_fine
set_option maxRecDepth 100000 in
set_option maxHeartbeats 8000000 in
theorem claimhears_law (c : Cf) (who : Int) (a0 : Option Addr) (m cp : Nat) (l : List Nt) (x : Ml) (a1 : Option Addr) (m1 c1 : Nat) (a2 : Option Addr) (m2 c2 : Nat) (hm : m = l.length) (hR : Reach x.rows) (w : World) (hB : Notes w (.slice a0 m cp) l) (hM : MailIn w a1 m1 c1 a2 m2 c2 x) :
    Calls Try.prog 3 #[cfV c, .int .i64 who, .slice a0 m cp, mlV x (.slice a1 m1 c1) (.slice a2 m2 c2)] w (Says w true) := by
  have hbig : m ≤ 9223372036854775807 := by rw [hm]; exact hB.big
  have hbig1 : m1 ≤ 9223372036854775807 := by rw [hM.1]; exact hM.2.1.big
  have hbig2 : m2 ≤ 9223372036854775807 := by rw [hM.2.2.1]; exact hM.2.2.2.1
  have HK : Hid (KeptM w w.heap.size c x (.slice a1 m1 c1) (.slice a2 m2 c2) ((w.alloc (.cells (cfCells c) 23)).alloc (.cells (mlCells x (.slice a1 m1 c1) (.slice a2 m2 c2)) 34))) :=
    ⟨below_two w _ _, (Whole.made w _ _).alloc _, Whole.made2 w _ _ _⟩
  have HB := Lib.hid hB; clear hB
  have HM := Lib.hid hM; clear hM
  have Hm := Lib.hid hm; clear hm
  obtain ⟨n, q, r, p, kk, cc⟩ := c
  obtain ⟨fr, tg, clk, rows, t, a, v, asks, try_, ph, echo⟩ := x
  have hl := fun w hw => light14 a0 m cp ⟨fr, tg, clk, rows, t, a, v, asks, try_, ph, echo⟩ a1 m1 c1 a2 m2 c2 hR hbig w hw
  have HL := Lib.hid hl; clear hl hR
  go_enter Try.func3, Try.ntmps3
  go_wp2_with fail
  refine (awake14 _).mono ?_
  rintro e w1 ⟨rfl, hb⟩
  have HK1 := Lib.hid (HK.out.later hb)
  clear hb HK
  obtain ⟨d0, d1, d2, d3, d4, d5⟩ := config_cells HK1.out.2.1
  obtain ⟨e0, e1, e2, e3, e4, e5, e6, e7, e8, e9, e10⟩ := ml_cells HK1.out.2.2
  simp only at d0 d1 d2 d3 d4 d5 e0 e1 e2 e3 e4 e5 e6 e7 e8 e9 e10
  go_wp2_with fail
  refine (HL.out _ (HM.out.later HK1.out.1)).mono ?_
  obtain ⟨lt, Hlt⟩ : ∃ z, Hid ((decide (m ≤ 40) && (decide (m2 ≤ 40) && shortB rows)) = z) := ⟨_, rfl⟩
  rintro e w2 ⟨rfl, hb⟩
  simp only [Hlt.out]
  have HK2 := Lib.hid (HK1.out.later hb)
  clear hb HK1 d0 d1 d2 d3 d4 d5 e0 e1 e2 e3 e4 e5 e6 e7 e8 e9 e10
  cases lt with
  | false =>
    go_wp2_with fail
    go_ret
    exact ⟨by rfl, HK2.out.1⟩
  | true =>
  have hm40 : m ≤ 40 := of_decide_eq_true (Bool.and_eq_true_iff.1 Hlt.out).1
  obtain ⟨v9, w9, hrun, q9, b9, _⟩ := run_append_nt (ownNt_nil w2) (HB.out.later (held_next HK2.out.1 (below_box w2 _))) Hm.out (by have := Hm.out; simp only [List.length_nil]; omega) (below_box w2 _).size
  rw [List.nil_append] at q9
  obtain ⟨A9, C9, rfl, hL9⟩ := q9.notes (by have := Hm.out; omega)
  rw [← Hm.out] at hrun hL9
  obtain ⟨hf, hv, hw⟩ := fine_of hrun
  have hb9 := (below_box w2 (.cells #[] 47)).trans b9
  have HK3 := Lib.hid (HK2.out.later hb9)
  have HL3 := Lib.hid hL9
  clear hrun q9 b9 hb9 hL9
  obtain ⟨d0, d1, d2, d3, d4, d5⟩ := config_cells HK3.out.2.1
  obtain ⟨e0, e1, e2, e3, e4, e5, e6, e7, e8, e9, e10⟩ := ml_cells HK3.out.2.2
  simp only at d0 d1 d2 d3 d4 d5 e0 e1 e2 e3 e4 e5 e6 e7 e8 e9 e10
  obtain ⟨J, HJ⟩ : ∃ z, Hid (hearN ⟨n, q, r, p, kk, cc⟩ who l ⟨fr, tg, clk, rows, t, a, v, asks, try_, ph, echo⟩ = z) := ⟨_, rfl⟩
  obtain ⟨jl, jk⟩ := J
  obtain ⟨jn, Hjn⟩ : ∃ z, Hid (jl.length = z) := ⟨_, rfl⟩
  have hj1 := fun w hw hM => cHear_calls ⟨n, q, r, p, kk, cc⟩ who A9 m C9 l ⟨fr, tg, clk, rows, t, a, v, asks, try_, ph, echo⟩ a1 m1 c1 a2 m2 c2 Hm.out (by omega) w hw hM
  have hj2 := fun w hw hM => refhear_calls ⟨n, q, r, p, kk, cc⟩ who a0 m cp l ⟨fr, tg, clk, rows, t, a, v, asks, try_, ph, echo⟩ a1 m1 c1 a2 m2 c2 Hm.out w hw hM
  rw [HJ.out] at hj1 hj2
  have Hj1 := Lib.hid hj1; have Hj2 := Lib.hid hj2; clear hj1 hj2
  go_wp2_with fail
  refine (Hj1.out _ HL3.out (HM.out.later HK3.out.1)).mono ?_
  rintro e w5 ⟨A1, C1, rfl, hL, hb⟩
  simp only [Hjn.out] at hL ⊢
  have HK5 := Lib.hid (HK3.out.later hb)
  have HL5 := Lib.hid (HL3.out.later hb)
  have HJ5 := Lib.hid hL
  clear hb hL hf hv hw HK3 d0 d1 d2 d3 d4 d5 e0 e1 e2 e3 e4 e5 e6 e7 e8 e9 e10
  obtain ⟨d0, d1, d2, d3, d4, d5⟩ := config_cells HK5.out.2.1
  obtain ⟨e0, e1, e2, e3, e4, e5, e6, e7, e8, e9, e10⟩ := ml_cells HK5.out.2.2
  simp only at d0 d1 d2 d3 d4 d5 e0 e1 e2 e3 e4 e5 e6 e7 e8 e9 e10
  go_wp2_with fail
  refine (Hj2.out _ (HB.out.later HK5.out.1) (HM.out.later HK5.out.1)).mono ?_
  rintro e w6 ⟨A2, C2, rfl, hL, hb⟩
  simp only [Hjn.out] at hL ⊢
  have HK6 := Lib.hid (HK5.out.later hb)
  have HL6 := Lib.hid (HL5.out.later hb)
  have HJ6 := Lib.hid (HJ5.out.later hb)
  have HI6 := Lib.hid hL
  have HB6 := Lib.hid (HB.out.later HK6.out.1)
  have HM6 := Lib.hid (HM.out.later HK6.out.1)
  clear hb hL HK5 d0 d1 d2 d3 d4 d5 e0 e1 e2 e3 e4 e5 e6 e7 e8 e9 e10
  obtain ⟨ok, Hok⟩ : ∃ z, Hid (notesB ⟨n, q, r, p, kk, cc⟩ who l = z) := ⟨_, rfl⟩
  obtain ⟨ok2, Hok2⟩ : ∃ z, Hid (mailB ⟨n, q, r, p, kk, cc⟩ ⟨fr, tg, clk, rows, t, a, v, asks, try_, ph, echo⟩ = z) := ⟨_, rfl⟩
  have O1 : Hid (∀ w', Below w6.heap.size w6 w' → Calls Try.prog 10 #[cfV ⟨n, q, r, p, kk, cc⟩, .int .i64 who, .slice a0 m cp] w' (Says w' ok)) := by
    rw [← Hok.out]; exact fun w' h => cMay_calls _ who a0 m cp l Hm.out (by omega) w' (HB6.out.later h)
  have O2 : Hid (∀ w', Below w6.heap.size w6 w' → Calls Try.prog 11 #[cfV ⟨n, q, r, p, kk, cc⟩, .int .i64 who, .slice a0 m cp] w' (Says w' ok)) := by
    rw [← Hok.out]; exact fun w' h => refclaimmay_calls _ who a0 m cp l Hm.out w' (HB6.out.later h)
  have O3 : Hid (∀ w', Below w6.heap.size w6 w' → Calls Try.prog 12 #[cfV ⟨n, q, r, p, kk, cc⟩, mlV ⟨fr, tg, clk, rows, t, a, v, asks, try_, ph, echo⟩ (.slice a1 m1 c1) (.slice a2 m2 c2)] w' (Says w' ok2)) := by
    rw [← Hok2.out]; exact fun w' h => cMayMail_calls _ _ a1 m1 c1 a2 m2 c2 w' (HM6.out.later h)
  have O4 : Hid (∀ w', Below w6.heap.size w6 w' → Calls Try.prog 13 #[cfV ⟨n, q, r, p, kk, cc⟩, mlV ⟨fr, tg, clk, rows, t, a, v, asks, try_, ph, echo⟩ (.slice a1 m1 c1) (.slice a2 m2 c2)] w' (Says w' ok2)) := by
    rw [← Hok2.out]; exact fun w' h => refmaymail_calls _ _ a1 m1 c1 a2 m2 c2 w' (HM6.out.later h)
  have O5 : Hid (∀ w', Below w6.heap.size w6 w' → Calls Try.prog 14 #[.slice A1 jn C1, .slice A2 jn C2] w' (Says w' true)) := by
    intro w' h; have h2 := refntsame_calls A1 jn C1 A2 jn C2 jl jl Hjn.out.symm Hjn.out.symm w' (HJ6.out.later h) (HI6.out.later h); rwa [sameNt_self] at h2
  have O6 : Hid (∀ w', Below w6.heap.size w6 w' → Calls Try.prog 14 #[.slice A9 m C9, .slice a0 m cp] w' (Says w' true)) := by
    intro w' h; have h2 := refntsame_calls A9 m C9 a0 m cp l l Hm.out Hm.out w' (HL6.out.later h) (HB6.out.later h); rwa [sameNt_self] at h2
  have KP : Hid (∀ w', Below w6.heap.size w6 w' → (fun w' => Below w6.heap.size w6 w' ∧ (w'.cell? ⟨w.heap.size, 0, none⟩ = some (.int .i64 n) ∧ w'.cell? ⟨w.heap.size, 1, none⟩ = some (.int .i64 q) ∧ w'.cell? ⟨w.heap.size, 2, none⟩ = some (.int .i64 r) ∧ w'.cell? ⟨w.heap.size, 3, none⟩ = some (.int .i64 p) ∧ w'.cell? ⟨w.heap.size, 4, none⟩ = some (.int .i64 kk) ∧ w'.cell? ⟨w.heap.size, 5, none⟩ = some (.int .i64 cc)) ∧ (w'.cell? ⟨w.heap.size + 1, 0, none⟩ = some (.int .i64 fr) ∧ w'.cell? ⟨w.heap.size + 1, 1, none⟩ = some (.int .i64 tg) ∧ w'.cell? ⟨w.heap.size + 1, 2, none⟩ = some (.int .i64 clk) ∧ w'.cell? ⟨w.heap.size + 1, 3, none⟩ = some (.slice a1 m1 c1) ∧ w'.cell? ⟨w.heap.size + 1, 4, none⟩ = some (.int .i64 t) ∧ w'.cell? ⟨w.heap.size + 1, 5, none⟩ = some (.int .i64 a) ∧ w'.cell? ⟨w.heap.size + 1, 6, none⟩ = some (.int .i64 v) ∧ w'.cell? ⟨w.heap.size + 1, 7, none⟩ = some (.int .i64 asks) ∧ w'.cell? ⟨w.heap.size + 1, 8, none⟩ = some (.int .i64 try_) ∧ w'.cell? ⟨w.heap.size + 1, 9, none⟩ = some (.int .i64 ph) ∧ w'.cell? ⟨w.heap.size + 1, 10, none⟩ = some (.slice a2 m2 c2))) w') :=
    fun w' h => ⟨h, config_cells (HK6.out.later h).2.1, ml_cells (HK6.out.later h).2.2⟩
  go_wp2_with fail
  go_region_held3 (fun w' => Below w6.heap.size w6 w' ∧ (w'.cell? ⟨w.heap.size, 0, none⟩ = some (.int .i64 n) ∧ w'.cell? ⟨w.heap.size, 1, none⟩ = some (.int .i64 q) ∧ w'.cell? ⟨w.heap.size, 2, none⟩ = some (.int .i64 r) ∧ w'.cell? ⟨w.heap.size, 3, none⟩ = some (.int .i64 p) ∧ w'.cell? ⟨w.heap.size, 4, none⟩ = some (.int .i64 kk) ∧ w'.cell? ⟨w.heap.size, 5, none⟩ = some (.int .i64 cc)) ∧ (w'.cell? ⟨w.heap.size + 1, 0, none⟩ = some (.int .i64 fr) ∧ w'.cell? ⟨w.heap.size + 1, 1, none⟩ = some (.int .i64 tg) ∧ w'.cell? ⟨w.heap.size + 1, 2, none⟩ = some (.int .i64 clk) ∧ w'.cell? ⟨w.heap.size + 1, 3, none⟩ = some (.slice a1 m1 c1) ∧ w'.cell? ⟨w.heap.size + 1, 4, none⟩ = some (.int .i64 t) ∧ w'.cell? ⟨w.heap.size + 1, 5, none⟩ = some (.int .i64 a) ∧ w'.cell? ⟨w.heap.size + 1, 6, none⟩ = some (.int .i64 v) ∧ w'.cell? ⟨w.heap.size + 1, 7, none⟩ = some (.int .i64 asks) ∧ w'.cell? ⟨w.heap.size + 1, 8, none⟩ = some (.int .i64 try_) ∧ w'.cell? ⟨w.heap.size + 1, 9, none⟩ = some (.int .i64 ph) ∧ w'.cell? ⟨w.heap.size + 1, 10, none⟩ = some (.slice a2 m2 c2)))
    (first | exact KP.out _ (Below.refl _ _).drew | (refine KP.out _ ?_; assumption))
    (first | (go_at_call 10; have hcur := (‹Below w6.heap.size w6 _ ∧ _ ∧ _›).1; have hcall := O1.out _ hcur; (with_reducible refine hcall.mono ?_); rintro ee wn ⟨rfl, hb⟩; have hS := held_next hcur hb; clear hb hcall) | (go_at_call 11; have hcur := (‹Below w6.heap.size w6 _ ∧ _ ∧ _›).1; have hcall := O2.out _ hcur; (with_reducible refine hcall.mono ?_); rintro ee wn ⟨rfl, hb⟩; have hS := held_next hcur hb; clear hb hcall) | (go_at_call 12; have hcur := (‹Below w6.heap.size w6 _ ∧ _ ∧ _›).1; have hcall := O3.out _ hcur; (with_reducible refine hcall.mono ?_); rintro ee wn ⟨rfl, hb⟩; have hS := held_next hcur hb; clear hb hcall) | (go_at_call 13; have hcur := (‹Below w6.heap.size w6 _ ∧ _ ∧ _›).1; have hcall := O4.out _ hcur; (with_reducible refine hcall.mono ?_); rintro ee wn ⟨rfl, hb⟩; have hS := held_next hcur hb; clear hb hcall) | (go_at_call 14; have hcur := (‹Below w6.heap.size w6 _ ∧ _ ∧ _›).1; have hcall := O5.out _ hcur; (with_reducible refine hcall.mono ?_); rintro ee wn ⟨rfl, hb⟩; have hS := held_next hcur hb; clear hb hcall) | (go_at_call 14; have hcur := (‹Below w6.heap.size w6 _ ∧ _ ∧ _›).1; have hcall := O6.out _ hcur; (with_reducible refine hcall.mono ?_); rintro ee wn ⟨rfl, hb⟩; have hS := held_next hcur hb; clear hb hcall))
  go_wp2_with fail
  go_ret
  exact ⟨by rfl, held_next HK6.out.1 (‹Below w6.heap.size w6 _ ∧ _ ∧ _›).1⟩
end Go.Proofs.Ytbpmonbehibgdaa
