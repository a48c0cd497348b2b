/- RowBehind, walked: behind is an order. -/
import Derived.Test.YtbghdanagahbnaaRowLaws
import Derived.Deep.RegionHeld
import Derived.Deep.DeepCutAuto
namespace Go.Proofs.Ytbghdanagahbnaa
open Go.RowKit

theorem behind_trans {i u j v p q : Int} {la lb lc : List Int} (h1 : behindB i u la j v lb = true) (h2 : behindB j v lb p q lc = true) : behindB i u la p q lc = true := by
  obtain ⟨a1, a2, a3, a4⟩ := behindB_iff.1 h1
  obtain ⟨b1, b2, b3, b4⟩ := behindB_iff.1 h2
  refine behindB_iff.2 ⟨by omega, by omega, by omega, fun k hk => ?_⟩
  have := a4 k hk
  have := b4 k (by omega)
  omega
theorem behind_self (i u : Int) (la : List Int) : behindB i u la i u la = true :=
  behindB_iff.2 ⟨rfl, Int.le_refl _, Int.le_refl _, fun _ _ => Int.le_refl _⟩

set_option maxRecDepth 100000 in
set_option maxHeartbeats 4000000 in
theorem behind_law (W : World) (i u : Int) (a : Option Addr) (n c : Nat) (la : List Int) (j v : Int) (b : Option Addr) (m d : Nat) (lb : List Int) (p q : Int) (e : Option Addr) (k f : Nat) (lc : List Int)
    (hn : n = la.length) (hm : m = lb.length) (hk : k = lc.length) (hA : Nums W (.slice a n c) la) (hB : Nums W (.slice b m d) lb) (hC : Nums W (.slice e k f) lc) :
    Calls Try.prog 5 #[rowV i u (.slice a n c), rowV j v (.slice b m d), rowV p q (.slice e k f)] W (Says W true) := by
  have hbn : n ≤ 9223372036854775807 := by rw [hn]; exact hA.1
  have hbm : m ≤ 9223372036854775807 := by rw [hm]; exact hB.1
  have hbk : k ≤ 9223372036854775807 := by rw [hk]; exact hC.1
  have HA := Lib.hid hA; clear hA
  have HB := Lib.hid hB; clear hB
  have HC := Lib.hid hC; clear hC
  have Hn := Lib.hid hn; clear hn
  have Hm := Lib.hid hm; clear hm
  have Hk := Lib.hid hk; clear hk
  obtain ⟨w0, Hw0⟩ : ∃ w0, Hid (three W i u a n c j v b m d p q e k f = w0) := ⟨_, rfl⟩
  have HWa0 : Hid (Whole w0 W.heap.size 24 #[.int .i64 i, .int .i64 u, .slice a n c]) := by rw [← Hw0.out]; exact three_a ..
  have HWb0 : Hid (Whole w0 (W.heap.size + 1) 24 #[.int .i64 j, .int .i64 v, .slice b m d]) := by rw [← Hw0.out]; exact three_b ..
  have HWc0 : Hid (Whole w0 (W.heap.size + 1 + 1) 24 #[.int .i64 p, .int .i64 q, .slice e k f]) := by rw [← Hw0.out]; exact three_c ..
  have Hb0 : Hid (Below W.heap.size W w0) := by rw [← Hw0.out]; exact three_below ..
  go_enter Try.func5, Try.ntmps5
  go_wp2_with fail
  have hw0 := Hw0.out
  unfold three at hw0
  rw [hw0]
  clear hw0 Hw0
  refine (awake_calls _).mono ?_
  rintro ee w1 ⟨rfl, hb⟩
  have Hb1 := Lib.hid (held_next Hb0.out hb)
  have HWa1 := Lib.hid (HWa0.out.later hb HWa0.out.lt)
  have HWb1 := Lib.hid (HWb0.out.later hb HWb0.out.lt)
  have HWc1 := Lib.hid (HWc0.out.later hb HWc0.out.lt)
  clear hb HWa0 HWb0 HWc0 Hb0
  obtain ⟨a0, a1, a2⟩ := row_cells HWa1.out
  obtain ⟨b0, b1, b2⟩ := row_cells HWb1.out
  obtain ⟨c0, c1, c2⟩ := row_cells HWc1.out
  by_cases h1 : 100 < n
  · go_wp2_with fail
    go_ret
    exact ⟨rfl, Hb1.out⟩
  by_cases h2 : 100 < m
  · go_wp2_with fail
    go_ret
    exact ⟨rfl, Hb1.out⟩
  by_cases h3 : 100 < k
  · go_wp2_with fail
    go_ret
    exact ⟨rfl, Hb1.out⟩
  go_upto_region 5 with fail
  clear a0 a1 a2 b0 b1 b2 c0 c1 c2
  obtain ⟨x, Hx⟩ : ∃ x, Hid (behindB i u la j v lb = x) := ⟨_, rfl⟩
  obtain ⟨y, Hy⟩ : ∃ y, Hid (behindB j v lb i u la = y) := ⟨_, rfl⟩
  obtain ⟨s, Hs⟩ : ∃ s, Hid (sameB i u la j v lb = s) := ⟨_, rfl⟩
  obtain ⟨r, Hr⟩ : ∃ r, Hid (behindB j v lb p q lc = r) := ⟨_, rfl⟩
  obtain ⟨z, Hz⟩ : ∃ z, Hid (behindB i u la p q lc = z) := ⟨_, rfl⟩
  have Hxys : Hid ((x && y) = s) := by rw [← Hx.out, ← Hy.out, ← Hs.out]; exact same_both ..
  have Hxrz : Hid (x = true → r = true → z = true) := by rw [← Hx.out, ← Hr.out, ← Hz.out]; exact behind_trans
  have KP : Hid (∀ w', Below w1.heap.size w1 w' → (Below w1.heap.size w1 w' ∧ (w'.cell? ⟨W.heap.size, 0, none⟩ = some (.int .i64 i) ∧ w'.cell? ⟨W.heap.size, 1, none⟩ = some (.int .i64 u) ∧ w'.cell? ⟨W.heap.size, 2, none⟩ = some (.slice a n c)) ∧
      (w'.cell? ⟨W.heap.size + 1, 0, none⟩ = some (.int .i64 j) ∧ w'.cell? ⟨W.heap.size + 1, 1, none⟩ = some (.int .i64 v) ∧ w'.cell? ⟨W.heap.size + 1, 2, none⟩ = some (.slice b m d)) ∧
      (w'.cell? ⟨W.heap.size + 1 + 1, 0, none⟩ = some (.int .i64 p) ∧ w'.cell? ⟨W.heap.size + 1 + 1, 1, none⟩ = some (.int .i64 q) ∧ w'.cell? ⟨W.heap.size + 1 + 1, 2, none⟩ = some (.slice e k f)))) :=
    fun w' h => ⟨h, row_cells (HWa1.out.later h HWa1.out.lt), row_cells (HWb1.out.later h HWb1.out.lt), row_cells (HWc1.out.later h HWc1.out.lt)⟩
  have Oab : Hid (∀ w', Below w1.heap.size w1 w' → Calls Try.prog 10 #[rowV i u (.slice a n c), rowV j v (.slice b m d)] w' (Says w' x)) := by
    rw [← Hx.out]; exact fun w' h => behind_calls a n c b m d i u j v la lb Hn.out Hm.out w' (HA.out.later (held_next Hb1.out h)) (HB.out.later (held_next Hb1.out h))
  have Oba : Hid (∀ w', Below w1.heap.size w1 w' → Calls Try.prog 10 #[rowV j v (.slice b m d), rowV i u (.slice a n c)] w' (Says w' y)) := by
    rw [← Hy.out]; exact fun w' h => behind_calls b m d a n c j v i u lb la Hm.out Hn.out w' (HB.out.later (held_next Hb1.out h)) (HA.out.later (held_next Hb1.out h))
  have Obc : Hid (∀ w', Below w1.heap.size w1 w' → Calls Try.prog 10 #[rowV j v (.slice b m d), rowV p q (.slice e k f)] w' (Says w' r)) := by
    rw [← Hr.out]; exact fun w' h => behind_calls b m d e k f j v p q lb lc Hm.out Hk.out w' (HB.out.later (held_next Hb1.out h)) (HC.out.later (held_next Hb1.out h))
  have Oac : Hid (∀ w', Below w1.heap.size w1 w' → Calls Try.prog 10 #[rowV i u (.slice a n c), rowV p q (.slice e k f)] w' (Says w' z)) := by
    rw [← Hz.out]; exact fun w' h => behind_calls a n c e k f i u p q la lc Hn.out Hk.out w' (HA.out.later (held_next Hb1.out h)) (HC.out.later (held_next Hb1.out h))
  have Oaa : Hid (∀ w', Below w1.heap.size w1 w' → Calls Try.prog 10 #[rowV i u (.slice a n c), rowV i u (.slice a n c)] w' (Says w' true)) := by
    rw [← behind_self i u la]; exact fun w' h => behind_calls a n c a n c i u i u la la Hn.out Hn.out w' (HA.out.later (held_next Hb1.out h)) (HA.out.later (held_next Hb1.out h))
  have Osab : Hid (∀ w', Below w1.heap.size w1 w' → Calls Try.prog 12 #[rowV i u (.slice a n c), rowV j v (.slice b m d)] w' (Says w' s)) := by
    rw [← Hs.out]; exact fun w' h => same_calls a n c b m d i u j v la lb Hn.out Hm.out w' (HA.out.later (held_next Hb1.out h)) (HB.out.later (held_next Hb1.out h))
  have Orab : Hid (∀ w', Below w1.heap.size w1 w' → Calls Try.prog 9 #[rowV i u (.slice a n c), rowV j v (.slice b m d)] w' (Says w' s)) := by
    rw [← Hs.out]; exact fun w' h => refsame_calls a n c b m d i u j v la lb Hn.out Hm.out w' (HA.out.later (held_next Hb1.out h)) (HB.out.later (held_next Hb1.out h))
  clear Hx Hy Hs Hr Hz
  go_cut [36] from 25 to 36 (fun s36 wx => s36 = .bool false ∧ Hid (Below w1.heap.size w1 wx))
  case first =>
    cases x with
    | false =>
      clear Hxys Hxrz
      refine wp_region_held_drew (S := (fun w' => Below w1.heap.size w1 w' ∧ (w'.cell? ⟨W.heap.size, 0, none⟩ = some (.int .i64 i) ∧ w'.cell? ⟨W.heap.size, 1, none⟩ = some (.int .i64 u) ∧ w'.cell? ⟨W.heap.size, 2, none⟩ = some (.slice a n c)) ∧ (w'.cell? ⟨W.heap.size + 1, 0, none⟩ = some (.int .i64 j) ∧ w'.cell? ⟨W.heap.size + 1, 1, none⟩ = some (.int .i64 v) ∧ w'.cell? ⟨W.heap.size + 1, 2, none⟩ = some (.slice b m d)) ∧ (w'.cell? ⟨W.heap.size + 1 + 1, 0, none⟩ = some (.int .i64 p) ∧ w'.cell? ⟨W.heap.size + 1 + 1, 1, none⟩ = some (.int .i64 q) ∧ w'.cell? ⟨W.heap.size + 1 + 1, 2, none⟩ = some (.slice e k f)))) (by kernel_rfl) (KP.out _ (Below.refl _ _).drew) (fun hHeld => ?_)
      refine wpAnyH_take (i := 0) (oi := ⟨some 25, _, _, _, _, _⟩) (v := ?_) rfl (by kernel_rfl) (by kernel_rfl) (by kernel_rfl) (fun _ _ _ h => h) (Or.inl ⟨by rfl, ?_⟩) (by assumption) ?_
      rotate_left 1
      · intro w hSw
        try dsimp only at hSw
        go_simp
        with_reducible rfl
      simp only [Act.put, List.setIfInBounds_toArray, List.set_cons_zero, List.set_cons_succ]
      refine wpAnyH_take (i := 1) (oi := ⟨some 26, _, _, _, _, _⟩) (v := ?_) rfl (by kernel_rfl) (by kernel_rfl) (by kernel_rfl) (fun _ _ _ h => h) (Or.inl ⟨by rfl, ?_⟩) (by assumption) ?_
      rotate_left 1
      · intro w hSw
        try dsimp only at hSw
        go_simp
        with_reducible rfl
      simp only [Act.put, List.setIfInBounds_toArray, List.set_cons_zero, List.set_cons_succ]
      refine wpAnyH_ready (rs := [2]) (by kernel_rfl) (by simp) ?_
      refine AllReadyH.cons rfl (fun K hK => ?_) AllReadyH.nil
      go_simp
      go_wp2_with (go_at_call 10; refine (Oab.out _ hHeld.1).mono ?_; rintro ee wA ⟨rfl, hbA⟩)
      refine hK.out _ _ (KP.out _ (held_next hHeld.1 hbA)) (fun hHeld2 => ?_)
      clear hHeld hbA hK K
      refine wpAnyH_take (i := 3) (oi := ⟨some 28, _, _, _, _, _⟩) (v := ?_) rfl (by kernel_rfl) (by kernel_rfl) (by kernel_rfl) (fun _ _ _ h => h) (Or.inl ⟨by rfl, ?_⟩) (by assumption) ?_
      rotate_left 1
      · intro w hSw
        try dsimp only at hSw
        go_simp
        with_reducible rfl
      simp only [Act.put, List.setIfInBounds_toArray, List.set_cons_zero, List.set_cons_succ]
      refine wpAnyH_take (i := 4) (oi := ⟨some 29, _, _, _, _, _⟩) (v := undef) rfl (by kernel_rfl) (by kernel_rfl) (by kernel_rfl) (fun _ _ _ h => h) (Or.inr ⟨by rfl, rfl⟩) (by assumption) ?_
      simp only [Act.put, List.setIfInBounds_toArray, List.set_cons_zero, List.set_cons_succ]
      refine wpAnyH_take (i := 5) (oi := ⟨some 30, _, _, _, _, _⟩) (v := undef) rfl (by kernel_rfl) (by kernel_rfl) (by kernel_rfl) (fun _ _ _ h => h) (Or.inr ⟨by rfl, rfl⟩) (by assumption) ?_
      simp only [Act.put, List.setIfInBounds_toArray, List.set_cons_zero, List.set_cons_succ]
      refine wpAnyH_take (i := 6) (oi := ⟨some 31, _, _, _, _, _⟩) (v := undef) rfl (by kernel_rfl) (by kernel_rfl) (by kernel_rfl) (fun _ _ _ h => h) (Or.inr ⟨by rfl, rfl⟩) (by assumption) ?_
      simp only [Act.put, List.setIfInBounds_toArray, List.set_cons_zero, List.set_cons_succ]
      refine wpAnyH_take (i := 7) (oi := ⟨some 32, _, _, _, _, _⟩) (v := undef) rfl (by kernel_rfl) (by kernel_rfl) (by kernel_rfl) (fun _ _ _ h => h) (Or.inr ⟨by rfl, rfl⟩) (by assumption) ?_
      simp only [Act.put, List.setIfInBounds_toArray, List.set_cons_zero, List.set_cons_succ]
      refine wpAnyH_take (i := 8) (oi := ⟨some 33, _, _, _, _, _⟩) (v := undef) rfl (by kernel_rfl) (by kernel_rfl) (by kernel_rfl) (fun _ _ _ h => h) (Or.inr ⟨by rfl, rfl⟩) (by assumption) ?_
      simp only [Act.put, List.setIfInBounds_toArray, List.set_cons_zero, List.set_cons_succ]
      refine wpAnyH_take (i := 9) (oi := ⟨some 34, _, _, _, _, _⟩) (v := undef) rfl (by kernel_rfl) (by kernel_rfl) (by kernel_rfl) (fun _ _ _ h => h) (Or.inr ⟨by rfl, rfl⟩) (by assumption) ?_
      simp only [Act.put, List.setIfInBounds_toArray, List.set_cons_zero, List.set_cons_succ]
      refine wpAnyH_take (i := 10) (oi := ⟨some 35, _, _, _, _, _⟩) (v := undef) rfl (by kernel_rfl) (by kernel_rfl) (by kernel_rfl) (fun _ _ _ h => h) (Or.inr ⟨by rfl, rfl⟩) (by assumption) ?_
      simp only [Act.put, List.setIfInBounds_toArray, List.set_cons_zero, List.set_cons_succ]
      refine wpAnyH_take (i := 11) (oi := ⟨some 36, _, _, _, _, _⟩) (v := ?_) rfl (by kernel_rfl) (by kernel_rfl) (by kernel_rfl) (fun _ _ _ h => h) (Or.inl ⟨by rfl, ?_⟩) (by assumption) ?_
      rotate_left 1
      · intro w hSw
        try dsimp only at hSw
        go_simp
        with_reducible rfl
      simp only [Act.put, List.setIfInBounds_toArray, List.set_cons_zero, List.set_cons_succ]
      refine wpAnyH_done (by kernel_rfl) ?_ _
      go_wp2_with fail
      go_meet
      exact ⟨rfl, hHeld2.1⟩
    | true =>
      obtain rfl : y = s := by simpa using Hxys.out
      clear Hxys Hxrz
      first | go_region_held (fun w' => Below w1.heap.size w1 w' ∧ (w'.cell? ⟨W.heap.size, 0, none⟩ = some (.int .i64 i) ∧ w'.cell? ⟨W.heap.size, 1, none⟩ = some (.int .i64 u) ∧ w'.cell? ⟨W.heap.size, 2, none⟩ = some (.slice a n c)) ∧ (w'.cell? ⟨W.heap.size + 1, 0, none⟩ = some (.int .i64 j) ∧ w'.cell? ⟨W.heap.size + 1, 1, none⟩ = some (.int .i64 v) ∧ w'.cell? ⟨W.heap.size + 1, 2, none⟩ = some (.slice b m d)) ∧ (w'.cell? ⟨W.heap.size + 1 + 1, 0, none⟩ = some (.int .i64 p) ∧ w'.cell? ⟨W.heap.size + 1 + 1, 1, none⟩ = some (.int .i64 q) ∧ w'.cell? ⟨W.heap.size + 1 + 1, 2, none⟩ = some (.slice e k f))) (first | exact KP.out _ (Below.refl _ _).drew | (refine KP.out _ ?_; assumption)) (first | (go_at_call 10; have hcur := (‹Below w1.heap.size w1 _ ∧ _ ∧ _›).1; ((with_reducible refine (Oab.out _ hcur).mono ?_); rintro ee wA ⟨rfl, hbA⟩; have hSA := held_next hcur hbA; clear hcur hbA)) | (go_at_call 10; have hcur := (‹Below w1.heap.size w1 _ ∧ _ ∧ _›).1; ((with_reducible refine (Oba.out _ hcur).mono ?_); rintro ee wB ⟨rfl, hbB⟩; have hSB := held_next hcur hbB; clear hcur hbB)) | (go_at_call 9; have hcur := (‹Below w1.heap.size w1 _ ∧ _ ∧ _›).1; ((with_reducible refine (Orab.out _ hcur).mono ?_); rintro ee wC ⟨rfl, hbC⟩; have hSC := held_next hcur hbC; clear hcur hbC))) | fail
      all_goals go_wp2_with fail
      all_goals go_meet
      all_goals exact ⟨rfl, (‹Below w1.heap.size w1 _ ∧ _ ∧ _›).1⟩
  case rest =>
    obtain ⟨rfl, Hbc⟩ := hcut
    go_upto_region 7 with fail
    obtain ⟨_, ⟨a0, a1, a2⟩, ⟨b0, b1, b2⟩, ⟨c0, c1, c2⟩⟩ := KP.out wc Hbc.out
    go_cut [50] from 37 to 50 (fun s50 wx => s50 = .bool false ∧ Hid (Below w1.heap.size w1 wx))
    case first =>
      go_wp2_with fail
      refine (Oab.out _ Hbc.out).mono ?_
      rintro ee w2 ⟨rfl, hb⟩
      have Hb2 := Lib.hid (held_next Hbc.out hb)
      clear hb a0 a1 a2 b0 b1 b2 c0 c1 c2
      obtain ⟨_, ⟨a0, a1, a2⟩, ⟨b0, b1, b2⟩, ⟨c0, c1, c2⟩⟩ := KP.out w2 Hb2.out
      cases x with
      | false =>
        go_wp2_with fail
        go_meet
        exact ⟨rfl, Hb2.out⟩
      | true =>
        go_wp2_with fail
        refine (Obc.out _ Hb2.out).mono ?_
        rintro ee w3 ⟨rfl, hb⟩
        have Hb3 := Lib.hid (held_next Hb2.out hb)
        clear hb a0 a1 a2 b0 b1 b2 c0 c1 c2
        obtain ⟨_, ⟨a0, a1, a2⟩, ⟨b0, b1, b2⟩, ⟨c0, c1, c2⟩⟩ := KP.out w3 Hb3.out
        cases r with
        | false =>
          go_wp2_with fail
          go_meet
          exact ⟨rfl, Hb3.out⟩
        | true =>
          have hz : z = true := by simpa using Hxrz.out
          subst hz
          go_wp2_with fail
          refine (Oac.out _ Hb3.out).mono ?_
          rintro ee w4 ⟨rfl, hb⟩
          have Hb4 := Lib.hid (held_next Hb3.out hb)
          clear hb a0 a1 a2 b0 b1 b2 c0 c1 c2
          go_wp2_with fail
          go_meet
          exact ⟨by simp, Hb4.out⟩
    case rest =>
      obtain ⟨rfl, Hbd⟩ := hcut
      clear a0 a1 a2 b0 b1 b2 c0 c1 c2
      clear Hxys Hxrz Oba Obc Oac Oab
      go_wp2_with fail
      first | go_region_held (fun w' => Below w1.heap.size w1 w' ∧ (w'.cell? ⟨W.heap.size, 0, none⟩ = some (.int .i64 i) ∧ w'.cell? ⟨W.heap.size, 1, none⟩ = some (.int .i64 u) ∧ w'.cell? ⟨W.heap.size, 2, none⟩ = some (.slice a n c)) ∧ (w'.cell? ⟨W.heap.size + 1, 0, none⟩ = some (.int .i64 j) ∧ w'.cell? ⟨W.heap.size + 1, 1, none⟩ = some (.int .i64 v) ∧ w'.cell? ⟨W.heap.size + 1, 2, none⟩ = some (.slice b m d)) ∧ (w'.cell? ⟨W.heap.size + 1 + 1, 0, none⟩ = some (.int .i64 p) ∧ w'.cell? ⟨W.heap.size + 1 + 1, 1, none⟩ = some (.int .i64 q) ∧ w'.cell? ⟨W.heap.size + 1 + 1, 2, none⟩ = some (.slice e k f))) (first | exact KP.out _ (Hbd.out.drew) | (refine KP.out _ ?_; assumption)) (first | (go_at_call 10; have hcur := (‹Below w1.heap.size w1 _ ∧ _ ∧ _›).1; ((with_reducible refine (Oaa.out _ hcur).mono ?_); rintro ee wA ⟨rfl, hbA⟩; have hSA := held_next hcur hbA; clear hcur hbA)) | (go_at_call 12; have hcur := (‹Below w1.heap.size w1 _ ∧ _ ∧ _›).1; ((with_reducible refine (Osab.out _ hcur).mono ?_); rintro ee wB ⟨rfl, hbB⟩; have hSB := held_next hcur hbB; clear hcur hbB)) | (go_at_call 9; have hcur := (‹Below w1.heap.size w1 _ ∧ _ ∧ _›).1; ((with_reducible refine (Orab.out _ hcur).mono ?_); rintro ee wC ⟨rfl, hbC⟩; have hSC := held_next hcur hbC; clear hcur hbC))) | fail
      all_goals go_wp2_with fail
      all_goals go_ret
      all_goals exact ⟨by simp, held_next Hb1.out (‹Below w1.heap.size w1 _ ∧ _ ∧ _›).1⟩
end Go.Proofs.Ytbghdanagahbnaa
