/- Law ShareNone, walked: who has no more than the others gives nothing; who keeps all grants nothing; nobody grants itself. The law itself is stated in ShareCards. -/
import Derived.Test.YtkkhecdmjcffjaaShareAwake
import Derived.Test.YtkkhecdmjcffjaaShareBound
import Derived.Test.YtkkhecdmjcffjaaRefRightsShort
import Derived.Test.YtkkhecdmjcffjaaRefRightsOne
import Derived.Deep.RegionHeld3
namespace Go.Proofs.Ytkkhecdmjcffjaa
open Go.RowKit

set_option maxRecDepth 100000 in
set_option maxHeartbeats 8000000 in
theorem sharenone_law (c : Cf) (a : Option Addr) (m cp : Nat) (l : List Rw) (who tg need : Int) (w : World) (hm : m = l.length) (hB : Books w (.slice a m cp) l) (hR : Reach l) :
    Calls Try.prog 5 #[cfV c, .slice a m cp, .int .i64 who, .int .i64 tg, .int .i64 need] w (Says w true) := by
  have HW := Lib.hid (Whole.made w 23 (cfCells c))
  have Hb := Lib.hid (below_box w (.cells (cfCells c) 23))
  have HB := Lib.hid hB; clear hB
  have Hm := Lib.hid hm; clear hm
  obtain ⟨n, q, r, p, kk, cc⟩ := c
  go_enter Try.func5, Try.ntmps5
  go_wp2_with fail
  refine (awake13 _).mono ?_
  rintro e w1 ⟨rfl, hb⟩
  have Hb1 := Lib.hid (held_next Hb.out hb)
  have HW1 := Lib.hid (HW.out.later hb HW.out.lt)
  clear hb
  go_wp2_with fail
  refine (refshort_calls a m cp l Hm.out hR _ (HB.out.later Hb1.out)).mono ?_
  clear hR
  rintro e w2 ⟨rfl, hb⟩
  have Hb2 := Lib.hid (held_next Hb1.out hb)
  have HW2 := Lib.hid (HW1.out.later hb HW1.out.lt)
  clear hb
  cases shortB l with
  | false =>
    go_wp2_with fail
    go_ret
    exact ⟨by rfl, Hb2.out⟩
  | true =>
  obtain ⟨G, HG⟩ : ∃ z, Hid (giveV ⟨n, q, r, p, kk, cc⟩ l who 1099511627776 = z) := ⟨_, rfl⟩
  have hz := give_none ⟨n, q, r, p, kk, cc⟩ l who
  rw [HG.out] at hz
  obtain ⟨g1, g2⟩ := G
  simp only at hz
  subst hz
  have c1 := fun w hw => sGive_calls ⟨n, q, r, p, kk, cc⟩ a m cp l who 1099511627776 Hm.out (by decide) w hw
  rw [HG.out] at c1
  have c2 := fun w hw => sGrant_calls ⟨n, q, r, p, kk, cc⟩ a m cp l who 1099511627776 tg need Hm.out (by decide) w hw
  rw [grant_none] at c2
  have c3 := fun w hw => sGrant_calls ⟨n, q, r, p, kk, cc⟩ a m cp l who 0 who need Hm.out (by decide) w hw
  rw [grant_self] at c3
  obtain ⟨K, HK⟩ : ∃ z, Hid (giveV ⟨n, q, r, p, kk, cc⟩ l who 0 = z) := ⟨_, rfl⟩
  obtain ⟨k1, k2⟩ := K
  have c4 := fun w hw => sGive_calls ⟨n, q, r, p, kk, cc⟩ a m cp l who 0 Hm.out (by decide) w hw
  rw [HK.out] at c4
  have C1 := Lib.hid c1; have C2 := Lib.hid c2; have C3 := Lib.hid c3; have C4 := Lib.hid c4; clear c1 c2 c3 c4
  obtain ⟨d0, d1, d2, d3, d4, d5⟩ := config_cells HW2.out
  simp only at d0 d1 d2 d3 d4 d5
  go_wp2_with fail
  refine (C1.out _ (HB.out.later Hb2.out)).mono ?_
  rintro e w3 ⟨rfl, hb⟩
  have Hb3 := Lib.hid (held_next Hb2.out hb)
  have HW3 := Lib.hid (HW2.out.later hb HW2.out.lt)
  clear hb d0 d1 d2 d3 d4 d5
  obtain ⟨d0, d1, d2, d3, d4, d5⟩ := config_cells HW3.out
  simp only at d0 d1 d2 d3 d4 d5
  go_wp2_with fail
  refine (C2.out _ (HB.out.later Hb3.out)).mono ?_
  rintro e w4 ⟨rfl, hb⟩
  have Hb4 := Lib.hid (held_next Hb3.out hb)
  have HW4 := Lib.hid (HW3.out.later hb HW3.out.lt)
  clear hb d0 d1 d2 d3 d4 d5
  obtain ⟨d0, d1, d2, d3, d4, d5⟩ := config_cells HW4.out
  simp only at d0 d1 d2 d3 d4 d5
  go_wp2_with fail
  refine (C3.out _ (HB.out.later Hb4.out)).mono ?_
  rintro e w5 ⟨rfl, hb⟩
  have Hb5 := Lib.hid (held_next Hb4.out hb)
  have HW5 := Lib.hid (HW4.out.later hb HW4.out.lt)
  clear hb d0 d1 d2 d3 d4 d5
  obtain ⟨d0, d1, d2, d3, d4, d5⟩ := config_cells HW5.out
  simp only at d0 d1 d2 d3 d4 d5
  go_wp2_with fail
  refine (C4.out _ (HB.out.later Hb5.out)).mono ?_
  rintro e w6 ⟨rfl, hb⟩
  have Hb6 := Lib.hid (held_next Hb5.out hb)
  have HW6 := Lib.hid (HW5.out.later hb HW5.out.lt)
  clear hb d0 d1 d2 d3 d4 d5
  have hmore := give_more HK.out
  have hw1 := ofV_most ⟨n, q, r, p, kk, cc⟩ l who
  have hw2 := ofV_most ⟨n, q, r, p, kk, cc⟩ l k1
  obtain ⟨o1, Ho1⟩ : ∃ z, Hid (ofV ⟨n, q, r, p, kk, cc⟩ l who = z) := ⟨_, rfl⟩
  obtain ⟨o2, Ho2⟩ : ∃ z, Hid (ofV ⟨n, q, r, p, kk, cc⟩ l k1 = z) := ⟨_, rfl⟩
  rw [Ho1.out, Ho2.out] at hmore
  rw [Ho1.out] at hw1
  rw [Ho2.out] at hw2
  have O1 : Hid (∀ w', Below w6.heap.size w6 w' → Calls Try.prog 13 #[cfV ⟨n, q, r, p, kk, cc⟩, .slice a m cp, .int .i64 who] w' (Num w' o1)) := by
    intro w' h; have h2 := refOf_calls ⟨n, q, r, p, kk, cc⟩ a m cp l who Hm.out w' (HB.out.later (held_next Hb6.out h)); rwa [Ho1.out] at h2
  have O2 : Hid (∀ w', Below w6.heap.size w6 w' → Calls Try.prog 13 #[cfV ⟨n, q, r, p, kk, cc⟩, .slice a m cp, .int .i64 k1] w' (Num w' o2)) := by
    intro w' h; have h2 := refOf_calls ⟨n, q, r, p, kk, cc⟩ a m cp l k1 Hm.out w' (HB.out.later (held_next Hb6.out h)); rwa [Ho2.out] at h2
  have KP : Hid (∀ w', Below w6.heap.size w6 w' → (fun w' => Below w6.heap.size w6 w' ∧ (w'.cell? ⟨w.heap.size, 0, none⟩ = some (.int .i64 n) ∧ w'.cell? ⟨w.heap.size, 1, none⟩ = some (.int .i64 q) ∧ w'.cell? ⟨w.heap.size, 2, none⟩ = some (.int .i64 r) ∧ w'.cell? ⟨w.heap.size, 3, none⟩ = some (.int .i64 p) ∧ w'.cell? ⟨w.heap.size, 4, none⟩ = some (.int .i64 kk) ∧ w'.cell? ⟨w.heap.size, 5, none⟩ = some (.int .i64 cc))) w') :=
    fun w' h => ⟨h, config_cells (HW6.out.later h HW6.out.lt)⟩
  by_cases hk0 : k2 = 0
  · subst hk0
    clear hmore
    go_wp2_with fail
    refine wp_region_held_drew (S := (fun w' => Below w6.heap.size w6 w' ∧ (w'.cell? ⟨w.heap.size, 0, none⟩ = some (.int .i64 n) ∧ w'.cell? ⟨w.heap.size, 1, none⟩ = some (.int .i64 q) ∧ w'.cell? ⟨w.heap.size, 2, none⟩ = some (.int .i64 r) ∧ w'.cell? ⟨w.heap.size, 3, none⟩ = some (.int .i64 p) ∧ w'.cell? ⟨w.heap.size, 4, none⟩ = some (.int .i64 kk) ∧ w'.cell? ⟨w.heap.size, 5, none⟩ = some (.int .i64 cc)))) (by kernel_rfl) (KP.out _ (Below.refl _ _).drew) (fun hHeld => ?_)
    refine wpAnyH_take (i := 0) (oi := ⟨some 54, _, _, _, _, _⟩) (v := ?_) rfl (by kernel_rfl) (by kernel_rfl) (by kernel_rfl) (fun _ _ _ h => h) (Or.inl ⟨by rfl, ?_⟩) (by assumption) ?_
    rotate_left 1
    · intro w hSw
      try dsimp only at hSw
      go_simp
      try with_reducible rfl
    simp only [Act.put, List.setIfInBounds_toArray, List.set_cons_zero, List.set_cons_succ]
    refine wpAnyH_take (i := 1) (oi := ⟨some 55, _, _, _, _, _⟩) (v := ?_) rfl (by kernel_rfl) (by kernel_rfl) (by kernel_rfl) (fun _ _ _ h => h) (Or.inl ⟨by rfl, ?_⟩) (by assumption) ?_
    rotate_left 1
    · intro w hSw
      try dsimp only at hSw
      go_simp
      try with_reducible rfl
    simp only [Act.put, List.setIfInBounds_toArray, List.set_cons_zero, List.set_cons_succ]
    refine wpAnyH_take (i := 2) (oi := ⟨some 56, _, _, _, _, _⟩) (v := ?_) rfl (by kernel_rfl) (by kernel_rfl) (by kernel_rfl) (fun _ _ _ h => h) (Or.inl ⟨by rfl, ?_⟩) (by assumption) ?_
    rotate_left 1
    · intro w hSw
      try dsimp only at hSw
      go_simp
      try with_reducible rfl
    simp only [Act.put, List.setIfInBounds_toArray, List.set_cons_zero, List.set_cons_succ]
    refine wpAnyH_take (i := 3) (oi := ⟨some 57, _, _, _, _, _⟩) (v := undef) rfl (by kernel_rfl) (by kernel_rfl) (by kernel_rfl) (fun _ _ _ h => h) (Or.inr ⟨by rfl, rfl⟩) (by assumption) ?_
    simp only [Act.put, List.setIfInBounds_toArray, List.set_cons_zero, List.set_cons_succ]
    refine wpAnyH_take (i := 4) (oi := ⟨some 58, _, _, _, _, _⟩) (v := undef) rfl (by kernel_rfl) (by kernel_rfl) (by kernel_rfl) (fun _ _ _ h => h) (Or.inr ⟨by rfl, rfl⟩) (by assumption) ?_
    simp only [Act.put, List.setIfInBounds_toArray, List.set_cons_zero, List.set_cons_succ]
    refine wpAnyH_take (i := 5) (oi := ⟨some 59, _, _, _, _, _⟩) (v := undef) rfl (by kernel_rfl) (by kernel_rfl) (by kernel_rfl) (fun _ _ _ h => h) (Or.inr ⟨by rfl, rfl⟩) (by assumption) ?_
    simp only [Act.put, List.setIfInBounds_toArray, List.set_cons_zero, List.set_cons_succ]
    refine wpAnyH_take (i := 6) (oi := ⟨some 60, _, _, _, _, _⟩) (v := undef) rfl (by kernel_rfl) (by kernel_rfl) (by kernel_rfl) (fun _ _ _ h => h) (Or.inr ⟨by rfl, rfl⟩) (by assumption) ?_
    simp only [Act.put, List.setIfInBounds_toArray, List.set_cons_zero, List.set_cons_succ]
    refine wpAnyH_take (i := 7) (oi := ⟨some 61, _, _, _, _, _⟩) (v := undef) rfl (by kernel_rfl) (by kernel_rfl) (by kernel_rfl) (fun _ _ _ h => h) (Or.inr ⟨by rfl, rfl⟩) (by assumption) ?_
    simp only [Act.put, List.setIfInBounds_toArray, List.set_cons_zero, List.set_cons_succ]
    refine wpAnyH_take (i := 8) (oi := ⟨some 62, _, _, _, _, _⟩) (v := undef) rfl (by kernel_rfl) (by kernel_rfl) (by kernel_rfl) (fun _ _ _ h => h) (Or.inr ⟨by rfl, rfl⟩) (by assumption) ?_
    simp only [Act.put, List.setIfInBounds_toArray, List.set_cons_zero, List.set_cons_succ]
    refine wpAnyH_take (i := 9) (oi := ⟨some 63, _, _, _, _, _⟩) (v := undef) rfl (by kernel_rfl) (by kernel_rfl) (by kernel_rfl) (fun _ _ _ h => h) (Or.inr ⟨by rfl, rfl⟩) (by assumption) ?_
    simp only [Act.put, List.setIfInBounds_toArray, List.set_cons_zero, List.set_cons_succ]
    refine wpAnyH_take (i := 10) (oi := ⟨some 64, _, _, _, _, _⟩) (v := undef) rfl (by kernel_rfl) (by kernel_rfl) (by kernel_rfl) (fun _ _ _ h => h) (Or.inr ⟨by rfl, rfl⟩) (by assumption) ?_
    simp only [Act.put, List.setIfInBounds_toArray, List.set_cons_zero, List.set_cons_succ]
    refine wpAnyH_take (i := 11) (oi := ⟨some 65, _, _, _, _, _⟩) (v := undef) rfl (by kernel_rfl) (by kernel_rfl) (by kernel_rfl) (fun _ _ _ h => h) (Or.inr ⟨by rfl, rfl⟩) (by assumption) ?_
    simp only [Act.put, List.setIfInBounds_toArray, List.set_cons_zero, List.set_cons_succ]
    refine wpAnyH_take (i := 12) (oi := ⟨some 66, _, _, _, _, _⟩) (v := undef) rfl (by kernel_rfl) (by kernel_rfl) (by kernel_rfl) (fun _ _ _ h => h) (Or.inr ⟨by rfl, rfl⟩) (by assumption) ?_
    simp only [Act.put, List.setIfInBounds_toArray, List.set_cons_zero, List.set_cons_succ]
    refine wpAnyH_take (i := 13) (oi := ⟨some 67, _, _, _, _, _⟩) (v := undef) rfl (by kernel_rfl) (by kernel_rfl) (by kernel_rfl) (fun _ _ _ h => h) (Or.inr ⟨by rfl, rfl⟩) (by assumption) ?_
    simp only [Act.put, List.setIfInBounds_toArray, List.set_cons_zero, List.set_cons_succ]
    refine wpAnyH_take (i := 14) (oi := ⟨some 68, _, _, _, _, _⟩) (v := undef) rfl (by kernel_rfl) (by kernel_rfl) (by kernel_rfl) (fun _ _ _ h => h) (Or.inr ⟨by rfl, rfl⟩) (by assumption) ?_
    simp only [Act.put, List.setIfInBounds_toArray, List.set_cons_zero, List.set_cons_succ]
    refine wpAnyH_take (i := 15) (oi := ⟨some 69, _, _, _, _, _⟩) (v := undef) rfl (by kernel_rfl) (by kernel_rfl) (by kernel_rfl) (fun _ _ _ h => h) (Or.inr ⟨by rfl, rfl⟩) (by assumption) ?_
    simp only [Act.put, List.setIfInBounds_toArray, List.set_cons_zero, List.set_cons_succ]
    refine wpAnyH_take (i := 16) (oi := ⟨some 70, _, _, _, _, _⟩) (v := undef) rfl (by kernel_rfl) (by kernel_rfl) (by kernel_rfl) (fun _ _ _ h => h) (Or.inr ⟨by rfl, rfl⟩) (by assumption) ?_
    simp only [Act.put, List.setIfInBounds_toArray, List.set_cons_zero, List.set_cons_succ]
    refine wpAnyH_take (i := 17) (oi := ⟨some 71, _, _, _, _, _⟩) (v := undef) rfl (by kernel_rfl) (by kernel_rfl) (by kernel_rfl) (fun _ _ _ h => h) (Or.inr ⟨by rfl, rfl⟩) (by assumption) ?_
    simp only [Act.put, List.setIfInBounds_toArray, List.set_cons_zero, List.set_cons_succ]
    refine wpAnyH_take (i := 18) (oi := ⟨some 72, _, _, _, _, _⟩) (v := undef) rfl (by kernel_rfl) (by kernel_rfl) (by kernel_rfl) (fun _ _ _ h => h) (Or.inr ⟨by rfl, rfl⟩) (by assumption) ?_
    simp only [Act.put, List.setIfInBounds_toArray, List.set_cons_zero, List.set_cons_succ]
    refine wpAnyH_take (i := 19) (oi := ⟨some 73, _, _, _, _, _⟩) (v := undef) rfl (by kernel_rfl) (by kernel_rfl) (by kernel_rfl) (fun _ _ _ h => h) (Or.inr ⟨by rfl, rfl⟩) (by assumption) ?_
    simp only [Act.put, List.setIfInBounds_toArray, List.set_cons_zero, List.set_cons_succ]
    refine wpAnyH_take (i := 20) (oi := ⟨some 74, _, _, _, _, _⟩) (v := ?_) rfl (by kernel_rfl) (by kernel_rfl) (by kernel_rfl) (fun _ _ _ h => h) (Or.inl ⟨by rfl, ?_⟩) (by assumption) ?_
    rotate_left 1
    · intro w hSw
      try dsimp only at hSw
      go_simp
      try with_reducible rfl
    simp only [Act.put, List.setIfInBounds_toArray, List.set_cons_zero, List.set_cons_succ]
    refine wpAnyH_take (i := 21) (oi := ⟨some 10, _, _, _, _, _⟩) (v := ?_) rfl (by kernel_rfl) (by kernel_rfl) (by kernel_rfl) (fun _ _ _ h => h) (Or.inl ⟨by rfl, ?_⟩) (by assumption) ?_
    rotate_left 1
    · intro w hSw
      try dsimp only at hSw
      go_simp
      try with_reducible rfl
    simp only [Act.put, List.setIfInBounds_toArray, List.set_cons_zero, List.set_cons_succ]
    refine wpAnyH_done (by kernel_rfl) ?_ _
    have HbN := Lib.hid (held_next Hb6.out hHeld.1)
    clear hHeld
    go_wp2_with fail
    go_ret
    exact ⟨by rfl, HbN.out⟩
  · obtain ⟨_, h1, h2, h3, h4⟩ := hmore.resolve_left hk0
    have hk0' : (k2 == 0) = false := beq_eq_false_iff_ne.2 hk0
    have hne : (k1 != who) = true := bne_iff_ne.2 h4
    have hle : decide (o2 + 2 * k2 ≤ o1) = true := decide_eq_true h3
    have kw1 : IntKind.i64.wrap (2 * k2) = 2 * k2 := IntWalk.i64_in _ (by omega)
    have kw2 : IntKind.i64.wrap (o2 + 2 * k2) = o2 + 2 * k2 := IntWalk.i64_in _ (by omega)
    have HN := Lib.hid (And.intro hk0 h4)
    clear hmore hk0 h4
    go_wp2_with fail
    go_region_held3 (fun w' => Below w6.heap.size w6 w' ∧ (w'.cell? ⟨w.heap.size, 0, none⟩ = some (.int .i64 n) ∧ w'.cell? ⟨w.heap.size, 1, none⟩ = some (.int .i64 q) ∧ w'.cell? ⟨w.heap.size, 2, none⟩ = some (.int .i64 r) ∧ w'.cell? ⟨w.heap.size, 3, none⟩ = some (.int .i64 p) ∧ w'.cell? ⟨w.heap.size, 4, none⟩ = some (.int .i64 kk) ∧ w'.cell? ⟨w.heap.size, 5, none⟩ = some (.int .i64 cc)))
      (first | exact KP.out _ (Below.refl _ _).drew | (refine KP.out _ ?_; assumption))
      (first | (go_at_call 13; have hcur := (‹Below w6.heap.size w6 _ ∧ _›).1; have hcall := O1.out _ hcur; (with_reducible refine hcall.mono ?_); rintro ee wn ⟨rfl, hb⟩; have hS := held_next hcur hb; clear hb hcall) | (go_at_call 13; have hcur := (‹Below w6.heap.size w6 _ ∧ _›).1; have hcall := O2.out _ hcur; (with_reducible refine hcall.mono ?_); rintro ee wn ⟨rfl, hb⟩; have hS := held_next hcur hb; clear hb hcall))
    go_wp2_with fail
    go_ret
    exact ⟨by rfl, held_next Hb6.out (‹Below w6.heap.size w6 _ ∧ _›).1⟩
end Go.Proofs.Ytkkhecdmjcffjaa
