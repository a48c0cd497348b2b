/- Law LineJoins, walked: any line may be, and takes any request, or refuses it, as the document says; the line stays. The law itself is stated in LineCards. -/
import Derived.Test.YtefekkfocogghaaLineAwake
import Derived.Test.YtefekkfocogghaaAppRun
import Derived.Deep.RegionHeld3
namespace Go.Proofs.Ytefekkfocogghaa
open Go.RowKit

attribute [local go_sem ↓] run_fine
set_option maxRecDepth 100000 in
set_option maxHeartbeats 8000000 in
theorem linejoins_law (c : Cf) (who : Int) (a : Option Addr) (m cp : Nat) (l : List Rq) (x : Rq) (hm : m = l.length) (w : World) (hB : Line w (.slice a m cp) l) :
    Calls Try.prog 3 #[cfV c, .int .i64 who, .slice a m cp, rqV x] w (Says w true) := by
  have hbig : m ≤ 9223372036854775807 := by rw [hm]; exact hB.big
  have HW := Lib.hid ((Whole.made w 23 (cfCells c)).alloc (.cells (rqCells x) 28))
  have HX := Lib.hid (Whole.made2 w (.cells (cfCells c) 23) 28 (rqCells x))
  have Hb0 := Lib.hid (below_two w (.cells (cfCells c) 23) (.cells (rqCells x) 28))
  have HB := Lib.hid hB; clear hB
  have Hm := Lib.hid hm; clear hm
  obtain ⟨n, q, r, p, kk, cc⟩ := c
  obtain ⟨t, u, v⟩ := x
  go_enter Try.func3, Try.ntmps3
  go_wp2_with fail
  refine (awake11 _).mono ?_
  rintro e w1 ⟨rfl, hb⟩
  have Hb1 := Lib.hid (held_next Hb0.out hb)
  have HW1 := Lib.hid (HW.out.later hb HW.out.lt)
  have HX1 := Lib.hid (HX.out.later hb HX.out.lt)
  clear hb
  by_cases h100 : 100 < m
  · go_wp2_with fail
    go_ret
    exact ⟨by rfl, Hb1.out⟩
  have h100' : m ≤ 100 := by omega
  clear h100
  obtain ⟨v9, w9, hrun, q9, b9, _⟩ := run_append_line (ownQ_nil w1) (HB.out.later (held_next Hb1.out (below_box w1 _))) Hm.out (by have := Hm.out; simp only [List.length_nil]; omega) (below_box w1 _).size
  rw [List.nil_append] at q9
  obtain ⟨A9, C9, rfl, hL9⟩ := q9.line (by have := Hm.out; omega)
  rw [← Hm.out] at hrun hL9
  obtain ⟨hf, hv, hw⟩ := fine_of hrun
  have hb9 := (below_box w1 (.cells #[] 28)).trans b9
  have Hb9 := Lib.hid (held_next Hb1.out hb9)
  have HW9 := Lib.hid (HW1.out.later hb9 HW1.out.lt)
  have HX9 := Lib.hid (HX1.out.later hb9 HX1.out.lt)
  have HL9 := Lib.hid hL9
  clear hrun q9 b9 hb9 hL9
  obtain ⟨d0, d1, d2, d3, d4, d5⟩ := config_cells HW9.out
  obtain ⟨f0, f1, f2⟩ := rq_cells HX9.out
  simp only at d0 d1 d2 d3 d4 d5 f0 f1 f2
  obtain ⟨J, HJ⟩ : ∃ z, Hid (joinQ ⟨n, q, r, p, kk, cc⟩ who l ⟨t, u, v⟩ = z) := ⟨_, rfl⟩
  obtain ⟨jl, jk⟩ := J
  obtain ⟨jn, Hjn⟩ : ∃ z, Hid (jl.length = z) := ⟨_, rfl⟩
  have hj1 := fun w hw => lJoin_calls ⟨n, q, r, p, kk, cc⟩ who A9 m C9 l ⟨t, u, v⟩ Hm.out (by omega) w hw
  have hj2 := fun w hw => reflinejoin_calls ⟨n, q, r, p, kk, cc⟩ who a m cp l ⟨t, u, v⟩ Hm.out w hw
  rw [HJ.out] at hj1 hj2
  have Hj1 := Lib.hid hj1; have Hj2 := Lib.hid hj2; clear hj1 hj2
  go_wp2_with fail
  refine (Hj1.out _ HL9.out).mono ?_
  rintro e w3 ⟨A1, C1, rfl, hL, hb⟩
  simp only [Hjn.out] at hL ⊢
  have Hb3 := Lib.hid (held_next Hb9.out hb)
  have HW3 := Lib.hid (HW9.out.later hb HW9.out.lt)
  have HX3 := Lib.hid (HX9.out.later hb HX9.out.lt)
  have HL3 := Lib.hid (HL9.out.later hb)
  have HJ3 := Lib.hid hL
  clear hb hL d0 d1 d2 d3 d4 d5 f0 f1 f2 hf hv hw HW1 HX1
  obtain ⟨d0, d1, d2, d3, d4, d5⟩ := config_cells HW3.out
  obtain ⟨f0, f1, f2⟩ := rq_cells HX3.out
  simp only at d0 d1 d2 d3 d4 d5 f0 f1 f2
  go_wp2_with fail
  refine (Hj2.out _ (HB.out.later Hb3.out)).mono ?_
  rintro e w4 ⟨A2, C2, rfl, hL, hb⟩
  simp only [Hjn.out] at hL ⊢
  have Hb4 := Lib.hid (held_next Hb3.out hb)
  have HW4 := Lib.hid (HW3.out.later hb HW3.out.lt)
  have HL4 := Lib.hid (HL3.out.later hb)
  have HJ4 := Lib.hid (HJ3.out.later hb)
  have HK4 := Lib.hid hL
  have HB4 := Lib.hid (HB.out.later Hb4.out)
  clear hb hL d0 d1 d2 d3 d4 d5 f0 f1 f2 HW3 HX3 HW9 HX9
  obtain ⟨ok, Hok⟩ : ∃ z, Hid (lineB ⟨n, q, r, p, kk, cc⟩ who l = z) := ⟨_, rfl⟩
  have O1 : Hid (∀ w', Below w4.heap.size w4 w' → Calls Try.prog 9 #[cfV ⟨n, q, r, p, kk, cc⟩, .int .i64 who, .slice A9 m C9] w' (Says w' ok)) := by
    rw [← Hok.out]; exact fun w' h => lMay_calls _ who A9 m C9 l Hm.out (by omega) w' (HL4.out.later h)
  have O2 : Hid (∀ w', Below w4.heap.size w4 w' → Calls Try.prog 10 #[cfV ⟨n, q, r, p, kk, cc⟩, .int .i64 who, .slice a m cp] w' (Says w' ok)) := by
    rw [← Hok.out]; exact fun w' h => reflinemay_calls _ who a m cp l Hm.out w' (HB4.out.later h)
  have O3 : Hid (∀ w', Below w4.heap.size w4 w' → Calls Try.prog 11 #[.slice A1 jn C1, .slice A2 jn C2] w' (Says w' true)) := by
    intro w' h; have h2 := reflinesame_calls A1 jn C1 A2 jn C2 jl jl Hjn.out.symm Hjn.out.symm w' (HJ4.out.later h) (HK4.out.later h); rwa [sameQ_self] at h2
  have O4 : Hid (∀ w', Below w4.heap.size w4 w' → Calls Try.prog 11 #[.slice A9 m C9, .slice a m cp] w' (Says w' true)) := by
    intro w' h; have h2 := reflinesame_calls A9 m C9 a m cp l l Hm.out Hm.out w' (HL4.out.later h) (HB4.out.later h); rwa [sameQ_self] at h2
  have KP : Hid (∀ w', Below w4.heap.size w4 w' → (fun w' => Below w4.heap.size w4 w' ∧ w'.cell? ⟨w.heap.size, 0, none⟩ = some (.int .i64 n) ∧ w'.cell? ⟨w.heap.size, 1, none⟩ = some (.int .i64 q) ∧ w'.cell? ⟨w.heap.size, 2, none⟩ = some (.int .i64 r) ∧ w'.cell? ⟨w.heap.size, 3, none⟩ = some (.int .i64 p) ∧ w'.cell? ⟨w.heap.size, 4, none⟩ = some (.int .i64 kk) ∧ w'.cell? ⟨w.heap.size, 5, none⟩ = some (.int .i64 cc)) w') :=
    fun w' h => ⟨h, config_cells (HW4.out.later h HW4.out.lt)⟩
  go_wp2_with fail
  go_region_held3 (fun w' => Below w4.heap.size w4 w' ∧ w'.cell? ⟨w.heap.size, 0, none⟩ = some (.int .i64 n) ∧ w'.cell? ⟨w.heap.size, 1, none⟩ = some (.int .i64 q) ∧ w'.cell? ⟨w.heap.size, 2, none⟩ = some (.int .i64 r) ∧ w'.cell? ⟨w.heap.size, 3, none⟩ = some (.int .i64 p) ∧ w'.cell? ⟨w.heap.size, 4, none⟩ = some (.int .i64 kk) ∧ w'.cell? ⟨w.heap.size, 5, none⟩ = some (.int .i64 cc))
    (first | exact KP.out _ (Below.refl _ _).drew | (refine KP.out _ ?_; assumption))
    (first | (go_at_call 9; have hcur := (‹Below w4.heap.size w4 _ ∧ _ ∧ _›).1; have hcall := O1.out _ hcur; (with_reducible refine hcall.mono ?_); rintro ee wn ⟨rfl, hb⟩; have hS := held_next hcur hb; clear hb hcall) | (go_at_call 10; have hcur := (‹Below w4.heap.size w4 _ ∧ _ ∧ _›).1; have hcall := O2.out _ hcur; (with_reducible refine hcall.mono ?_); rintro ee wn ⟨rfl, hb⟩; have hS := held_next hcur hb; clear hb hcall) | (go_at_call 11; have hcur := (‹Below w4.heap.size w4 _ ∧ _ ∧ _›).1; have hcall := O3.out _ hcur; (with_reducible refine hcall.mono ?_); rintro ee wn ⟨rfl, hb⟩; have hS := held_next hcur hb; clear hb hcall) | (go_at_call 11; have hcur := (‹Below w4.heap.size w4 _ ∧ _ ∧ _›).1; have hcall := O4.out _ hcur; (with_reducible refine hcall.mono ?_); rintro ee wn ⟨rfl, hb⟩; have hS := held_next hcur hb; clear hb hcall))
  go_wp2_with fail
  go_ret
  exact ⟨by rfl, held_next Hb4.out (‹Below w4.heap.size w4 _ ∧ _ ∧ _›).1⟩
end Go.Proofs.Ytefekkfocogghaa
