/- Law ShareMoves, walked: what is given, or granted, may be moved, or would be above 2^50; who gives stays no poorer than whom it gives to. The law itself is stated in ShareCards. -/
import Derived.Test.YtkkhecdmjcffjaaShareAwake
import Derived.Test.YtkkhecdmjcffjaaShareBound
import Derived.Test.YtkkhecdmjcffjaaRefRightsShort
import Derived.Test.YtkkhecdmjcffjaaRefRightsMove
import Derived.Test.YtkkhecdmjcffjaaRefRightsOne
import Derived.Deep.RegionHeld3
namespace Go.Proofs.Ytkkhecdmjcffjaa
open Go.RowKit

set_option maxRecDepth 100000 in
set_option maxHeartbeats 8000000 in
theorem sharemoves_law (c : Cf) (a : Option Addr) (m cp : Nat) (l : List Rw) (who tg keep need : Int) (w : World) (hm : m = l.length) (hkeep : keep ≤ 9223372036854775807) (hB : Books w (.slice a m cp) l) (hR : Reach l) :
    Calls Try.prog 4 #[cfV c, .slice a m cp, .int .i64 who, .int .i64 tg, .int .i64 keep, .int .i64 need] w (Says w true) := by
  have HW := Lib.hid (Whole.made w 23 (cfCells c))
  have Hb := Lib.hid (below_box w (.cells (cfCells c) 23))
  have HB := Lib.hid hB; clear hB
  have Hm := Lib.hid hm; clear hm
  obtain ⟨n, q, r, p, kk, cc⟩ := c
  go_enter Try.func4, Try.ntmps4
  go_wp2_with fail
  refine (awake13 _).mono ?_
  rintro e w1 ⟨rfl, hb⟩
  have Hb1 := Lib.hid (held_next Hb.out hb)
  have HW1 := Lib.hid (HW.out.later hb HW.out.lt)
  clear hb
  go_wp2_with fail
  refine (refshort_calls a m cp l Hm.out hR _ (HB.out.later Hb1.out)).mono ?_
  clear hR
  rintro e w2 ⟨rfl, hb⟩
  have Hb2 := Lib.hid (held_next Hb1.out hb)
  have HW2 := Lib.hid (HW1.out.later hb HW1.out.lt)
  clear hb
  cases shortB l with
  | false =>
    go_wp2_with fail
    go_ret
    exact ⟨by rfl, Hb2.out⟩
  | true =>
  obtain ⟨G, HG⟩ : ∃ z, Hid (giveV ⟨n, q, r, p, kk, cc⟩ l who keep = z) := ⟨_, rfl⟩
  obtain ⟨g1, g2⟩ := G
  have hgm := give_moves HG.out
  have c1 := fun w hw => sGive_calls ⟨n, q, r, p, kk, cc⟩ a m cp l who keep Hm.out hkeep w hw
  rw [HG.out] at c1
  obtain ⟨gr, Hgr⟩ : ∃ z, Hid (grantV ⟨n, q, r, p, kk, cc⟩ l who keep tg need = z) := ⟨_, rfl⟩
  have hgr := grant_moves ⟨n, q, r, p, kk, cc⟩ l who keep tg need
  have c2 := fun w hw => sGrant_calls ⟨n, q, r, p, kk, cc⟩ a m cp l who keep tg need Hm.out hkeep w hw
  rw [Hgr.out] at hgr c2
  have C1 := Lib.hid c1; have C2 := Lib.hid c2; clear c1 c2
  have Hgm := Lib.hid hgr; clear hgr
  obtain ⟨d0, d1, d2, d3, d4, d5⟩ := config_cells HW2.out
  simp only at d0 d1 d2 d3 d4 d5
  go_wp2_with fail
  refine (C1.out _ (HB.out.later Hb2.out)).mono ?_
  rintro e w3 ⟨rfl, hb⟩
  have Hb3 := Lib.hid (held_next Hb2.out hb)
  have HW3 := Lib.hid (HW2.out.later hb HW2.out.lt)
  clear hb d0 d1 d2 d3 d4 d5
  rcases hgm with ⟨h1, h2⟩ | ⟨hpos, hcode⟩
  · subst h1 h2
    obtain ⟨d0, d1, d2, d3, d4, d5⟩ := config_cells HW3.out
    simp only at d0 d1 d2 d3 d4 d5
    go_wp2_with fail
    refine (C2.out _ (HB.out.later Hb3.out)).mono ?_
    rintro e w7 ⟨rfl, hb⟩
    have Hb7 := Lib.hid (held_next Hb3.out hb)
    have HW7 := Lib.hid (HW3.out.later hb HW3.out.lt)
    clear hb d0 d1 d2 d3 d4 d5
    obtain ⟨d0, d1, d2, d3, d4, d5⟩ := config_cells HW7.out
    simp only at d0 d1 d2 d3 d4 d5
    by_cases hz : gr = 0
    · subst hz
      go_wp2_with fail
      go_ret
      exact ⟨by rfl, Hb7.out⟩
    obtain ⟨hpos, hcode⟩ := Hgm.out.resolve_left hz
    have hz' : (gr == 0) = false := beq_eq_false_iff_ne.2 hz
    have Hz := Lib.hid hz; clear hz
    have hmv := refmove_calls ⟨n, q, r, p, kk, cc⟩ a m cp l who tg gr Hm.out _ (HB.out.later Hb7.out)
    obtain ⟨V, HV⟩ : ∃ z, Hid (moveR ⟨n, q, r, p, kk, cc⟩ l who tg gr = z) := ⟨_, rfl⟩
    rw [HV.out] at hmv hcode
    obtain ⟨vl, vk⟩ := V
    simp only at hcode
    unfold JoinedB at hmv
    simp only at hmv
    obtain ⟨vn, Hvn⟩ : ∃ z, Hid (vl.length = z) := ⟨_, rfl⟩
    simp only [Hvn.out] at hmv
    have Hmv := Lib.hid hmv; clear hmv
    go_wp2_with fail
    refine Hmv.out.mono ?_
    rintro e w8 ⟨A8, C8, rfl, _, hb⟩
    have Hb8 := Lib.hid (held_next Hb7.out hb)
    have HW8 := Lib.hid (HW7.out.later hb HW7.out.lt)
    clear hb d0 d1 d2 d3 d4 d5
    rcases hcode with rfl | rfl
    · go_wp2_with fail
      go_ret
      exact ⟨by rfl, Hb8.out⟩
    · go_wp2_with fail
      go_ret
      exact ⟨by rfl, Hb8.out⟩
  have hg0 : (g2 == 0) = false := beq_eq_false_iff_ne.2 (by omega)
  have hmv := refmove_calls ⟨n, q, r, p, kk, cc⟩ a m cp l who g1 g2 Hm.out _ (HB.out.later Hb3.out)
  obtain ⟨V, HV⟩ : ∃ z, Hid (moveR ⟨n, q, r, p, kk, cc⟩ l who g1 g2 = z) := ⟨_, rfl⟩
  rw [HV.out] at hmv hcode
  obtain ⟨vl, vk⟩ := V
  simp only at hcode
  unfold JoinedB at hmv
  simp only at hmv
  obtain ⟨vn, Hvn⟩ : ∃ z, Hid (vl.length = z) := ⟨_, rfl⟩
  simp only [Hvn.out] at hmv
  have Hmv := Lib.hid hmv; clear hmv
  obtain ⟨d0, d1, d2, d3, d4, d5⟩ := config_cells HW3.out
  simp only at d0 d1 d2 d3 d4 d5
  go_wp2_with fail
  refine Hmv.out.mono ?_
  rintro e w4 ⟨A4, C4, rfl, hV, hb⟩
  have HV4 := Lib.hid hV
  clear hV
  have Hb4 := Lib.hid (held_next Hb3.out hb)
  have HW4 := Lib.hid (HW3.out.later hb HW3.out.lt)
  clear hb d0 d1 d2 d3 d4 d5
  have KP : Hid (∀ w', Below w4.heap.size w4 w' → (fun w' => Below w4.heap.size w4 w' ∧ (w'.cell? ⟨w.heap.size, 0, none⟩ = some (.int .i64 n) ∧ w'.cell? ⟨w.heap.size, 1, none⟩ = some (.int .i64 q) ∧ w'.cell? ⟨w.heap.size, 2, none⟩ = some (.int .i64 r) ∧ w'.cell? ⟨w.heap.size, 3, none⟩ = some (.int .i64 p) ∧ w'.cell? ⟨w.heap.size, 4, none⟩ = some (.int .i64 kk) ∧ w'.cell? ⟨w.heap.size, 5, none⟩ = some (.int .i64 cc))) w') :=
    fun w' h => ⟨h, config_cells (HW4.out.later h HW4.out.lt)⟩
  have Hpos := Lib.hid hpos
  clear hg0
  rcases hcode with rfl | ⟨rfl, hle⟩
  · clear hpos
    go_wp2_with fail
    refine wp_region_held_drew (S := (fun w' => Below w4.heap.size w4 w' ∧ (w'.cell? ⟨w.heap.size, 0, none⟩ = some (.int .i64 n) ∧ w'.cell? ⟨w.heap.size, 1, none⟩ = some (.int .i64 q) ∧ w'.cell? ⟨w.heap.size, 2, none⟩ = some (.int .i64 r) ∧ w'.cell? ⟨w.heap.size, 3, none⟩ = some (.int .i64 p) ∧ w'.cell? ⟨w.heap.size, 4, none⟩ = some (.int .i64 kk) ∧ w'.cell? ⟨w.heap.size, 5, none⟩ = some (.int .i64 cc)))) (by kernel_rfl) (KP.out _ (Below.refl _ _).drew) (fun hHeld => ?_)
    refine wpAnyH_take (i := 0) (oi := ⟨some 54, _, _, _, _, _⟩) (v := ?_) rfl (by kernel_rfl) (by kernel_rfl) (by kernel_rfl) (fun _ _ _ h => h) (Or.inl ⟨by rfl, ?_⟩) (by assumption) ?_
    rotate_left 1
    · intro w hSw
      try dsimp only at hSw
      go_simp
      try with_reducible rfl
    simp only [Act.put, List.setIfInBounds_toArray, List.set_cons_zero, List.set_cons_succ]
    refine wpAnyH_take (i := 1) (oi := ⟨some 55, _, _, _, _, _⟩) (v := ?_) rfl (by kernel_rfl) (by kernel_rfl) (by kernel_rfl) (fun _ _ _ h => h) (Or.inl ⟨by rfl, ?_⟩) (by assumption) ?_
    rotate_left 1
    · intro w hSw
      try dsimp only at hSw
      go_simp
      try with_reducible rfl
    simp only [Act.put, List.setIfInBounds_toArray, List.set_cons_zero, List.set_cons_succ]
    refine wpAnyH_take (i := 2) (oi := ⟨some 56, _, _, _, _, _⟩) (v := ?_) rfl (by kernel_rfl) (by kernel_rfl) (by kernel_rfl) (fun _ _ _ h => h) (Or.inl ⟨by rfl, ?_⟩) (by assumption) ?_
    rotate_left 1
    · intro w hSw
      try dsimp only at hSw
      go_simp
      try with_reducible rfl
    simp only [Act.put, List.setIfInBounds_toArray, List.set_cons_zero, List.set_cons_succ]
    refine wpAnyH_take (i := 3) (oi := ⟨some 57, _, _, _, _, _⟩) (v := undef) rfl (by kernel_rfl) (by kernel_rfl) (by kernel_rfl) (fun _ _ _ h => h) (Or.inr ⟨by rfl, rfl⟩) (by assumption) ?_
    simp only [Act.put, List.setIfInBounds_toArray, List.set_cons_zero, List.set_cons_succ]
    refine wpAnyH_take (i := 4) (oi := ⟨some 58, _, _, _, _, _⟩) (v := undef) rfl (by kernel_rfl) (by kernel_rfl) (by kernel_rfl) (fun _ _ _ h => h) (Or.inr ⟨by rfl, rfl⟩) (by assumption) ?_
    simp only [Act.put, List.setIfInBounds_toArray, List.set_cons_zero, List.set_cons_succ]
    refine wpAnyH_take (i := 5) (oi := ⟨some 59, _, _, _, _, _⟩) (v := undef) rfl (by kernel_rfl) (by kernel_rfl) (by kernel_rfl) (fun _ _ _ h => h) (Or.inr ⟨by rfl, rfl⟩) (by assumption) ?_
    simp only [Act.put, List.setIfInBounds_toArray, List.set_cons_zero, List.set_cons_succ]
    refine wpAnyH_take (i := 6) (oi := ⟨some 60, _, _, _, _, _⟩) (v := undef) rfl (by kernel_rfl) (by kernel_rfl) (by kernel_rfl) (fun _ _ _ h => h) (Or.inr ⟨by rfl, rfl⟩) (by assumption) ?_
    simp only [Act.put, List.setIfInBounds_toArray, List.set_cons_zero, List.set_cons_succ]
    refine wpAnyH_take (i := 7) (oi := ⟨some 61, _, _, _, _, _⟩) (v := undef) rfl (by kernel_rfl) (by kernel_rfl) (by kernel_rfl) (fun _ _ _ h => h) (Or.inr ⟨by rfl, rfl⟩) (by assumption) ?_
    simp only [Act.put, List.setIfInBounds_toArray, List.set_cons_zero, List.set_cons_succ]
    refine wpAnyH_take (i := 8) (oi := ⟨some 62, _, _, _, _, _⟩) (v := undef) rfl (by kernel_rfl) (by kernel_rfl) (by kernel_rfl) (fun _ _ _ h => h) (Or.inr ⟨by rfl, rfl⟩) (by assumption) ?_
    simp only [Act.put, List.setIfInBounds_toArray, List.set_cons_zero, List.set_cons_succ]
    refine wpAnyH_take (i := 9) (oi := ⟨some 63, _, _, _, _, _⟩) (v := undef) rfl (by kernel_rfl) (by kernel_rfl) (by kernel_rfl) (fun _ _ _ h => h) (Or.inr ⟨by rfl, rfl⟩) (by assumption) ?_
    simp only [Act.put, List.setIfInBounds_toArray, List.set_cons_zero, List.set_cons_succ]
    refine wpAnyH_take (i := 10) (oi := ⟨some 64, _, _, _, _, _⟩) (v := undef) rfl (by kernel_rfl) (by kernel_rfl) (by kernel_rfl) (fun _ _ _ h => h) (Or.inr ⟨by rfl, rfl⟩) (by assumption) ?_
    simp only [Act.put, List.setIfInBounds_toArray, List.set_cons_zero, List.set_cons_succ]
    refine wpAnyH_take (i := 11) (oi := ⟨some 65, _, _, _, _, _⟩) (v := undef) rfl (by kernel_rfl) (by kernel_rfl) (by kernel_rfl) (fun _ _ _ h => h) (Or.inr ⟨by rfl, rfl⟩) (by assumption) ?_
    simp only [Act.put, List.setIfInBounds_toArray, List.set_cons_zero, List.set_cons_succ]
    refine wpAnyH_take (i := 12) (oi := ⟨some 66, _, _, _, _, _⟩) (v := undef) rfl (by kernel_rfl) (by kernel_rfl) (by kernel_rfl) (fun _ _ _ h => h) (Or.inr ⟨by rfl, rfl⟩) (by assumption) ?_
    simp only [Act.put, List.setIfInBounds_toArray, List.set_cons_zero, List.set_cons_succ]
    refine wpAnyH_take (i := 13) (oi := ⟨some 67, _, _, _, _, _⟩) (v := undef) rfl (by kernel_rfl) (by kernel_rfl) (by kernel_rfl) (fun _ _ _ h => h) (Or.inr ⟨by rfl, rfl⟩) (by assumption) ?_
    simp only [Act.put, List.setIfInBounds_toArray, List.set_cons_zero, List.set_cons_succ]
    refine wpAnyH_take (i := 14) (oi := ⟨some 68, _, _, _, _, _⟩) (v := undef) rfl (by kernel_rfl) (by kernel_rfl) (by kernel_rfl) (fun _ _ _ h => h) (Or.inr ⟨by rfl, rfl⟩) (by assumption) ?_
    simp only [Act.put, List.setIfInBounds_toArray, List.set_cons_zero, List.set_cons_succ]
    refine wpAnyH_take (i := 15) (oi := ⟨some 69, _, _, _, _, _⟩) (v := undef) rfl (by kernel_rfl) (by kernel_rfl) (by kernel_rfl) (fun _ _ _ h => h) (Or.inr ⟨by rfl, rfl⟩) (by assumption) ?_
    simp only [Act.put, List.setIfInBounds_toArray, List.set_cons_zero, List.set_cons_succ]
    refine wpAnyH_take (i := 16) (oi := ⟨some 70, _, _, _, _, _⟩) (v := ?_) rfl (by kernel_rfl) (by kernel_rfl) (by kernel_rfl) (fun _ _ _ h => h) (Or.inl ⟨by rfl, ?_⟩) (by assumption) ?_
    rotate_left 1
    · intro w hSw
      try dsimp only at hSw
      go_simp
      try with_reducible rfl
    simp only [Act.put, List.setIfInBounds_toArray, List.set_cons_zero, List.set_cons_succ]
    refine wpAnyH_done (by kernel_rfl) ?_ _
    have Hb6 := Lib.hid (held_next Hb4.out hHeld.1)
    have HW6 := Lib.hid (HW4.out.later hHeld.1 HW4.out.lt)
    clear hHeld KP
    generalize w4.drew = w6 at Hb6 HW6 ⊢
    obtain ⟨d0, d1, d2, d3, d4, d5⟩ := config_cells HW6.out
    simp only at d0 d1 d2 d3 d4 d5
    go_wp2_with fail
    refine (C2.out _ (HB.out.later Hb6.out)).mono ?_
    rintro e w7 ⟨rfl, hb⟩
    have Hb7 := Lib.hid (held_next Hb6.out hb)
    have HW7 := Lib.hid (HW6.out.later hb HW6.out.lt)
    clear hb d0 d1 d2 d3 d4 d5
    obtain ⟨d0, d1, d2, d3, d4, d5⟩ := config_cells HW7.out
    simp only at d0 d1 d2 d3 d4 d5
    by_cases hz : gr = 0
    · subst hz
      go_wp2_with fail
      go_ret
      exact ⟨by rfl, Hb7.out⟩
    obtain ⟨hpos, hcode⟩ := Hgm.out.resolve_left hz
    have hz' : (gr == 0) = false := beq_eq_false_iff_ne.2 hz
    have Hz := Lib.hid hz; clear hz
    have hmv := refmove_calls ⟨n, q, r, p, kk, cc⟩ a m cp l who tg gr Hm.out _ (HB.out.later Hb7.out)
    obtain ⟨V, HV⟩ : ∃ z, Hid (moveR ⟨n, q, r, p, kk, cc⟩ l who tg gr = z) := ⟨_, rfl⟩
    rw [HV.out] at hmv hcode
    obtain ⟨vl, vk⟩ := V
    simp only at hcode
    unfold JoinedB at hmv
    simp only at hmv
    obtain ⟨vn, Hvn⟩ : ∃ z, Hid (vl.length = z) := ⟨_, rfl⟩
    simp only [Hvn.out] at hmv
    have Hmv := Lib.hid hmv; clear hmv
    go_wp2_with fail
    refine Hmv.out.mono ?_
    rintro e w8 ⟨A8, C8, rfl, _, hb⟩
    have Hb8 := Lib.hid (held_next Hb7.out hb)
    have HW8 := Lib.hid (HW7.out.later hb HW7.out.lt)
    clear hb d0 d1 d2 d3 d4 d5
    rcases hcode with rfl | rfl
    · go_wp2_with fail
      go_ret
      exact ⟨by rfl, Hb8.out⟩
    · go_wp2_with fail
      go_ret
      exact ⟨by rfl, Hb8.out⟩
  · obtain ⟨o1, Ho1⟩ : ∃ z, Hid (ofV ⟨n, q, r, p, kk, cc⟩ vl who = z) := ⟨_, rfl⟩
    obtain ⟨o2, Ho2⟩ : ∃ z, Hid (ofV ⟨n, q, r, p, kk, cc⟩ vl g1 = z) := ⟨_, rfl⟩
    rw [Ho1.out, Ho2.out] at hle
    have O1 : Hid (∀ w', Below w4.heap.size w4 w' → Calls Try.prog 13 #[cfV ⟨n, q, r, p, kk, cc⟩, .slice A4 vn C4, .int .i64 who] w' (Num w' o1)) := by
      intro w' h; have h2 := refOf_calls ⟨n, q, r, p, kk, cc⟩ A4 vn C4 vl who Hvn.out.symm w' (HV4.out.later h); rwa [Ho1.out] at h2
    have O2 : Hid (∀ w', Below w4.heap.size w4 w' → Calls Try.prog 13 #[cfV ⟨n, q, r, p, kk, cc⟩, .slice A4 vn C4, .int .i64 g1] w' (Num w' o2)) := by
      intro w' h; have h2 := refOf_calls ⟨n, q, r, p, kk, cc⟩ A4 vn C4 vl g1 Hvn.out.symm w' (HV4.out.later h); rwa [Ho2.out] at h2
    have hlt : decide (o1 < o2) = false := decide_eq_false (by omega)
    clear hpos
    go_wp2_with fail
    go_region_held3 (fun w' => Below w4.heap.size w4 w' ∧ (w'.cell? ⟨w.heap.size, 0, none⟩ = some (.int .i64 n) ∧ w'.cell? ⟨w.heap.size, 1, none⟩ = some (.int .i64 q) ∧ w'.cell? ⟨w.heap.size, 2, none⟩ = some (.int .i64 r) ∧ w'.cell? ⟨w.heap.size, 3, none⟩ = some (.int .i64 p) ∧ w'.cell? ⟨w.heap.size, 4, none⟩ = some (.int .i64 kk) ∧ w'.cell? ⟨w.heap.size, 5, none⟩ = some (.int .i64 cc)))
      (first | exact KP.out _ (Below.refl _ _).drew | (refine KP.out _ ?_; assumption))
      (first | (go_at_call 13; have hcur := (‹Below w4.heap.size w4 _ ∧ _›).1; have hcall := O1.out _ hcur; (with_reducible refine hcall.mono ?_); rintro ee wn ⟨rfl, hb⟩; have hS := held_next hcur hb; clear hb hcall) | (go_at_call 13; have hcur := (‹Below w4.heap.size w4 _ ∧ _›).1; have hcall := O2.out _ hcur; (with_reducible refine hcall.mono ?_); rintro ee wn ⟨rfl, hb⟩; have hS := held_next hcur hb; clear hb hcall))
    have Hb6 := Lib.hid (held_next Hb4.out (‹Below w4.heap.size w4 _ ∧ _›).1)
    have HW6 := Lib.hid (HW4.out.later (‹Below w4.heap.size w4 _ ∧ _›).1 HW4.out.lt)
    obtain ⟨d0, d1, d2, d3, d4, d5⟩ := config_cells HW6.out
    simp only at d0 d1 d2 d3 d4 d5
    go_wp2_with fail
    refine (C2.out _ (HB.out.later Hb6.out)).mono ?_
    rintro e w7 ⟨rfl, hb⟩
    have Hb7 := Lib.hid (held_next Hb6.out hb)
    have HW7 := Lib.hid (HW6.out.later hb HW6.out.lt)
    clear hb d0 d1 d2 d3 d4 d5
    obtain ⟨d0, d1, d2, d3, d4, d5⟩ := config_cells HW7.out
    simp only at d0 d1 d2 d3 d4 d5
    by_cases hz : gr = 0
    · subst hz
      go_wp2_with fail
      go_ret
      exact ⟨by rfl, Hb7.out⟩
    obtain ⟨hpos, hcode⟩ := Hgm.out.resolve_left hz
    have hz' : (gr == 0) = false := beq_eq_false_iff_ne.2 hz
    have Hz := Lib.hid hz; clear hz
    have hmv := refmove_calls ⟨n, q, r, p, kk, cc⟩ a m cp l who tg gr Hm.out _ (HB.out.later Hb7.out)
    obtain ⟨V, HV⟩ : ∃ z, Hid (moveR ⟨n, q, r, p, kk, cc⟩ l who tg gr = z) := ⟨_, rfl⟩
    rw [HV.out] at hmv hcode
    obtain ⟨vl, vk⟩ := V
    simp only at hcode
    unfold JoinedB at hmv
    simp only at hmv
    obtain ⟨vn, Hvn⟩ : ∃ z, Hid (vl.length = z) := ⟨_, rfl⟩
    simp only [Hvn.out] at hmv
    have Hmv := Lib.hid hmv; clear hmv
    go_wp2_with fail
    refine Hmv.out.mono ?_
    rintro e w8 ⟨A8, C8, rfl, _, hb⟩
    have Hb8 := Lib.hid (held_next Hb7.out hb)
    have HW8 := Lib.hid (HW7.out.later hb HW7.out.lt)
    clear hb d0 d1 d2 d3 d4 d5
    rcases hcode with rfl | rfl
    · go_wp2_with fail
      go_ret
      exact ⟨by rfl, Hb8.out⟩
    · go_wp2_with fail
      go_ret
      exact ⟨by rfl, Hb8.out⟩
end Go.Proofs.Ytkkhecdmjcffjaa
