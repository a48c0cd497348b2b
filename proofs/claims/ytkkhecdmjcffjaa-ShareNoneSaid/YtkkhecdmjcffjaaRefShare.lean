/- The document's own, layer 13: spare, Give, Grant. No law is proved here. -/
import Derived.Test.YtkkhecdmjcffjaaShareMath
import Derived.Test.YtkkhecdmjcffjaaRefRightsOne
namespace Go.Proofs.Ytkkhecdmjcffjaa
open Go.RowKit

set_option maxRecDepth 100000 in
set_option maxHeartbeats 4000000 in
theorem refspare_calls (c : Cf) (a : Option Addr) (m cp : Nat) (l : List Rw) (who keep : Int) (hm : m = l.length) (w : World) (hB : Books w (.slice a m cp) l) :
    Calls Try.prog 21 #[cfV c, .slice a m cp, .int .i64 who, .int .i64 keep] w (Num w (spareV c l who keep)) := by
  have hbd := ofV_bound c l who
  have hsp : spareV c l who keep = if 0 < keep then (if ofV c l who ≤ keep then 0 else ofV c l who - keep) else ofV c l who := rfl
  have Hb0 := Lib.hid (below_box w (.cells (cfCells c) 23))
  have hcall := fun w hw => refOf_calls c a m cp l who hm w hw
  obtain ⟨n, q, r, p, kk, cc⟩ := c
  obtain ⟨S, HS⟩ : ∃ z, Hid (spareV ⟨n, q, r, p, kk, cc⟩ l who keep = z) := ⟨_, rfl⟩
  obtain ⟨o, Ho⟩ : ∃ z, Hid (ofV ⟨n, q, r, p, kk, cc⟩ l who = z) := ⟨_, rfl⟩
  rw [HS.out]
  rw [HS.out, Ho.out] at hsp
  rw [Ho.out] at hbd hcall
  have Hsp := Lib.hid hsp
  have Hcall := Lib.hid hcall
  have HB := Lib.hid hB
  clear hsp hcall hB hm
  go_enter Try.func21, Try.ntmps21
  go_wp2_with fail
  refine (Hcall.out _ (HB.out.later Hb0.out)).mono ?_
  rintro e w1 ⟨rfl, hb⟩
  have Hb1 := Lib.hid (held_next Hb0.out hb)
  clear hb
  by_cases h1 : 0 < keep
  · by_cases h2 : o ≤ keep
    · obtain rfl : S = 0 := by rw [Hsp.out, if_pos h1, if_pos h2]
      go_wp2_with fail
      go_ret
      exact ⟨by rfl, Hb1.out⟩
    · obtain rfl : S = o - keep := by rw [Hsp.out, if_pos h1, if_neg h2]
      go_wp2_with fail
      go_ret
      exact ⟨by rfl, Hb1.out⟩
  · obtain rfl : S = o := by rw [Hsp.out, if_neg h1]
    go_wp2_with fail
    go_ret
    exact ⟨by rfl, Hb1.out⟩

/-- two numbers -/
def Two (w : World) (x : Int × Int) (e : Ending) (w' : World) : Prop := e = .returned (.tuple #[.int .i64 x.1, .int .i64 x.2]) ∧ Below w.heap.size w w'
set_option maxRecDepth 100000 in
set_option maxHeartbeats 8000000 in
theorem refgive_calls (c : Cf) (a : Option Addr) (m cp : Nat) (l : List Rw) (who keep : Int) (hm : m = l.length) (w : World) (hB : Books w (.slice a m cp) l) :
    Calls Try.prog 9 #[cfV c, .slice a m cp, .int .i64 who, .int .i64 keep] w (Two w (giveV c l who keep)) := by
  have hbig : m ≤ 9223372036854775807 := by rw [hm]; exact hB.big
  have HW := Lib.hid (Whole.made w 23 (cfCells c))
  have Hb0 := Lib.hid (below_box w (.cells (cfCells c) 23))
  have HB := Lib.hid hB; clear hB
  have Hm := Lib.hid hm; clear hm
  obtain ⟨n, q, r, p, kk, cc⟩ := c
  obtain ⟨res, Hres⟩ : ∃ z, Hid (giveV ⟨n, q, r, p, kk, cc⟩ l who keep = z) := ⟨_, rfl⟩
  rw [Hres.out]
  obtain ⟨ok, Hok⟩ : ∃ z, Hid (rightB ⟨n, q, r, p, kk, cc⟩ l = z) := ⟨_, rfl⟩
  go_enter Try.func9, Try.ntmps9
  go_wp2_with fail
  refine (refright_calls ⟨n, q, r, p, kk, cc⟩ a m cp l Hm.out _ (HB.out.later Hb0.out)).mono ?_
  rintro e w1 ⟨rfl, hb⟩
  rw [Hok.out]
  have Hb1 := Lib.hid (held_next Hb0.out hb)
  have HW1 := Lib.hid (HW.out.later hb HW.out.lt)
  clear hb
  obtain ⟨d0, d1, d2, d3, d4, d5⟩ := config_cells HW1.out
  simp only at d0 d1 d2 d3 d4 d5
  cases ok with
  | false =>
    obtain rfl : res = (0, 0) := Hres.out.symm.trans (giveV_no fun h => by
      have : rightB ⟨n, q, r, p, kk, cc⟩ l = true := decide_eq_true h.1
      rw [Hok.out] at this
      cases this)
    go_wp2_with fail
    go_ret2
    exact ⟨by rfl, Hb1.out⟩
  | true =>
    have Hro := Lib.hid (rightB_ok Hok.out)
    by_cases h1 : who < 0
    · obtain rfl : res = (0, 0) := Hres.out.symm.trans (giveV_no fun h => by have := h.2.1; omega)
      go_wp2_with fail
      go_ret2
      exact ⟨by rfl, Hb1.out⟩
    by_cases h2 : n ≤ who
    · obtain rfl : res = (0, 0) := Hres.out.symm.trans (giveV_no fun h => by have h3 : who < n := h.2.2.1; omega)
      go_wp2_with fail
      go_ret2
      exact ⟨by rfl, Hb1.out⟩
    by_cases h3 : n = 1
    · obtain rfl : res = (0, 0) := Hres.out.symm.trans (giveV_no fun h => h.2.2.2 h3)
      subst h3
      go_wp2_with fail
      go_ret2
      exact ⟨by rfl, Hb1.out⟩
    have hn1 : 1 ≤ n := Hro.out.1.1
    have hn16 : n ≤ 16 := Hro.out.1.2.1
    have hn2 : 2 ≤ n := by omega
    have h3' : (n == 1) = false := beq_eq_false_iff_ne.2 h3
    have Hwho : Hid (0 ≤ who ∧ who < n ∧ n ≠ 1) := ⟨by omega, by omega, h3⟩
    clear h3
    obtain ⟨g, Hg⟩ : ∃ z, Hid (ofV ⟨n, q, r, p, kk, cc⟩ l = z) := ⟨_, rfl⟩
    have hgb : ∀ i, 0 ≤ g i ∧ g i ≤ 19140298416324608 := fun i => by rw [← Hg.out]; exact ofV_bound _ l i
    have Hgb := Lib.hid hgb; clear hgb
    go_wp2_with fail
    clear d0 d1 d2 d3 d4 d5
    go_loopw [10, 11] (fun s10 s11 wr => ∃ t z : Int, s10 = .int .i64 t ∧ s11 = .int .i64 z ∧ -1 ≤ z ∧ z < n ∧ Hid (Best g who (z + 1) n t) ∧ Hid (Below w.heap.size w wr) ∧ Hid (Whole wr w.heap.size 23 (cfCells ⟨n, q, r, p, kk, cc⟩))) (fun _ s11 _ => (intOf s11 + 1).toNat)
    case atStart => exact ⟨-1, n - 1, rfl, rfl, by omega, by omega, Or.inl ⟨rfl, fun i hi hj => by omega⟩, Hb1.out, HW1.out⟩
    case round =>
      obtain ⟨t, z, rfl, rfl, hz1, hz2, Hbe, Hb, HWr⟩ := hrel
      by_cases hz0 : 0 ≤ z
      · obtain ⟨j, rfl⟩ : ∃ j : Nat, z = j := ⟨z.toNat, by omega⟩
        have htb : -1 ≤ t ∧ t < n := by
          rcases Hbe.out with ⟨h, _⟩ | ⟨h, h', _⟩ <;> omega
        obtain ⟨ht1, ht2⟩ := htb
        obtain ⟨gj, Hgj'⟩ : ∃ z, Hid (g j = z) := ⟨_, rfl⟩
        obtain ⟨gt, Hgt'⟩ : ∃ z, Hid (g t = z) := ⟨_, rfl⟩
        have Hgj : Hid (ofV ⟨n, q, r, p, kk, cc⟩ l j = gj) := (congrFun Hg.out j).trans Hgj'.out
        have Hgt : Hid (ofV ⟨n, q, r, p, kk, cc⟩ l t = gt) := (congrFun Hg.out t).trans Hgt'.out
        by_cases hjw : (j : Int) = who
        · have s1 : ((j : Int) != who) = false := by simp [hjw]
          have s2 : True := trivial
          have s3 : True := trivial
          have Hjw := Lib.hid hjw; clear hjw
          have KP : Hid (∀ w', Below wr.heap.size wr w' → (fun w' => Below wr.heap.size wr w' ∧ (w'.cell? ⟨w.heap.size, 0, none⟩ = some (.int .i64 n) ∧ w'.cell? ⟨w.heap.size, 1, none⟩ = some (.int .i64 q) ∧ w'.cell? ⟨w.heap.size, 2, none⟩ = some (.int .i64 r) ∧ w'.cell? ⟨w.heap.size, 3, none⟩ = some (.int .i64 p) ∧ w'.cell? ⟨w.heap.size, 4, none⟩ = some (.int .i64 kk) ∧ w'.cell? ⟨w.heap.size, 5, none⟩ = some (.int .i64 cc))) w') :=
            fun w' h => ⟨h, config_cells (HWr.out.later h HWr.out.lt)⟩
          go_wp2_with fail
          refine wp_region_held_drew (S := (fun w' => Below wr.heap.size wr w' ∧ (w'.cell? ⟨w.heap.size, 0, none⟩ = some (.int .i64 n) ∧ w'.cell? ⟨w.heap.size, 1, none⟩ = some (.int .i64 q) ∧ w'.cell? ⟨w.heap.size, 2, none⟩ = some (.int .i64 r) ∧ w'.cell? ⟨w.heap.size, 3, none⟩ = some (.int .i64 p) ∧ w'.cell? ⟨w.heap.size, 4, none⟩ = some (.int .i64 kk) ∧ w'.cell? ⟨w.heap.size, 5, none⟩ = some (.int .i64 cc)))) (by kernel_rfl) (KP.out _ (Below.refl _ _).drew) (fun hHeld => ?_)
          refine wpAnyH_take (i := 0) (oi := ⟨some 39, _, _, _, _, _⟩) (v := ?_) rfl (by kernel_rfl) (by kernel_rfl) (by kernel_rfl) (fun _ _ _ h => h) (Or.inl ⟨by rfl, ?_⟩) (by assumption) ?_
          rotate_left 1
          · intro w hSw
            try dsimp only at hSw
            go_simp
            try with_reducible rfl
          simp only [Act.put, List.setIfInBounds_toArray, List.set_cons_zero, List.set_cons_succ]
          refine wpAnyH_take (i := 1) (oi := ⟨some 40, _, _, _, _, _⟩) (v := ?_) rfl (by kernel_rfl) (by kernel_rfl) (by kernel_rfl) (fun _ _ _ h => h) (Or.inl ⟨by rfl, ?_⟩) (by assumption) ?_
          rotate_left 1
          · intro w hSw
            try dsimp only at hSw
            go_simp
            try with_reducible rfl
          simp only [Act.put, List.setIfInBounds_toArray, List.set_cons_zero, List.set_cons_succ]
          refine wpAnyH_take (i := 2) (oi := ⟨some 41, _, _, _, _, _⟩) (v := ?_) rfl (by kernel_rfl) (by kernel_rfl) (by kernel_rfl) (fun _ _ _ h => h) (Or.inl ⟨by rfl, ?_⟩) (by assumption) ?_
          rotate_left 1
          · intro w hSw
            try dsimp only at hSw
            go_simp
            try simp only [s1, s2, s3]
            try with_reducible rfl
          simp only [Act.put, List.setIfInBounds_toArray, List.set_cons_zero, List.set_cons_succ]
          refine wpAnyH_take (i := 3) (oi := ⟨some 42, _, _, _, _, _⟩) (v := ?_) rfl (by kernel_rfl) (by kernel_rfl) (by kernel_rfl) (fun _ _ _ h => h) (Or.inl ⟨by rfl, ?_⟩) (by assumption) ?_
          rotate_left 1
          · intro w hSw
            try dsimp only at hSw
            go_simp
            try simp only [s1, s2, s3]
            try with_reducible rfl
          simp only [Act.put, List.setIfInBounds_toArray, List.set_cons_zero, List.set_cons_succ]
          refine wpAnyH_take (i := 4) (oi := ⟨some 43, _, _, _, _, _⟩) (v := undef) rfl (by kernel_rfl) (by kernel_rfl) (by kernel_rfl) (fun _ _ _ h => h) (Or.inr ⟨by rfl, rfl⟩) (by assumption) ?_
          simp only [Act.put, List.setIfInBounds_toArray, List.set_cons_zero, List.set_cons_succ]
          refine wpAnyH_take (i := 5) (oi := ⟨some 44, _, _, _, _, _⟩) (v := undef) rfl (by kernel_rfl) (by kernel_rfl) (by kernel_rfl) (fun _ _ _ h => h) (Or.inr ⟨by rfl, rfl⟩) (by assumption) ?_
          simp only [Act.put, List.setIfInBounds_toArray, List.set_cons_zero, List.set_cons_succ]
          refine wpAnyH_take (i := 6) (oi := ⟨some 45, _, _, _, _, _⟩) (v := undef) rfl (by kernel_rfl) (by kernel_rfl) (by kernel_rfl) (fun _ _ _ h => h) (Or.inr ⟨by rfl, rfl⟩) (by assumption) ?_
          simp only [Act.put, List.setIfInBounds_toArray, List.set_cons_zero, List.set_cons_succ]
          refine wpAnyH_take (i := 7) (oi := ⟨some 46, _, _, _, _, _⟩) (v := undef) rfl (by kernel_rfl) (by kernel_rfl) (by kernel_rfl) (fun _ _ _ h => h) (Or.inr ⟨by rfl, rfl⟩) (by assumption) ?_
          simp only [Act.put, List.setIfInBounds_toArray, List.set_cons_zero, List.set_cons_succ]
          refine wpAnyH_take (i := 8) (oi := ⟨some 47, _, _, _, _, _⟩) (v := undef) rfl (by kernel_rfl) (by kernel_rfl) (by kernel_rfl) (fun _ _ _ h => h) (Or.inr ⟨by rfl, rfl⟩) (by assumption) ?_
          simp only [Act.put, List.setIfInBounds_toArray, List.set_cons_zero, List.set_cons_succ]
          refine wpAnyH_take (i := 9) (oi := ⟨some 48, _, _, _, _, _⟩) (v := undef) rfl (by kernel_rfl) (by kernel_rfl) (by kernel_rfl) (fun _ _ _ h => h) (Or.inr ⟨by rfl, rfl⟩) (by assumption) ?_
          simp only [Act.put, List.setIfInBounds_toArray, List.set_cons_zero, List.set_cons_succ]
          refine wpAnyH_take (i := 10) (oi := ⟨some 49, _, _, _, _, _⟩) (v := undef) rfl (by kernel_rfl) (by kernel_rfl) (by kernel_rfl) (fun _ _ _ h => h) (Or.inr ⟨by rfl, rfl⟩) (by assumption) ?_
          simp only [Act.put, List.setIfInBounds_toArray, List.set_cons_zero, List.set_cons_succ]
          refine wpAnyH_take (i := 11) (oi := ⟨some 50, _, _, _, _, _⟩) (v := undef) rfl (by kernel_rfl) (by kernel_rfl) (by kernel_rfl) (fun _ _ _ h => h) (Or.inr ⟨by rfl, rfl⟩) (by assumption) ?_
          simp only [Act.put, List.setIfInBounds_toArray, List.set_cons_zero, List.set_cons_succ]
          refine wpAnyH_take (i := 12) (oi := ⟨some 51, _, _, _, _, _⟩) (v := undef) rfl (by kernel_rfl) (by kernel_rfl) (by kernel_rfl) (fun _ _ _ h => h) (Or.inr ⟨by rfl, rfl⟩) (by assumption) ?_
          simp only [Act.put, List.setIfInBounds_toArray, List.set_cons_zero, List.set_cons_succ]
          refine wpAnyH_take (i := 13) (oi := ⟨some 52, _, _, _, _, _⟩) (v := undef) rfl (by kernel_rfl) (by kernel_rfl) (by kernel_rfl) (fun _ _ _ h => h) (Or.inr ⟨by rfl, rfl⟩) (by assumption) ?_
          simp only [Act.put, List.setIfInBounds_toArray, List.set_cons_zero, List.set_cons_succ]
          refine wpAnyH_take (i := 14) (oi := ⟨some 53, _, _, _, _, _⟩) (v := undef) rfl (by kernel_rfl) (by kernel_rfl) (by kernel_rfl) (fun _ _ _ h => h) (Or.inr ⟨by rfl, rfl⟩) (by assumption) ?_
          simp only [Act.put, List.setIfInBounds_toArray, List.set_cons_zero, List.set_cons_succ]
          refine wpAnyH_take (i := 15) (oi := ⟨some 54, _, _, _, _, _⟩) (v := undef) rfl (by kernel_rfl) (by kernel_rfl) (by kernel_rfl) (fun _ _ _ h => h) (Or.inr ⟨by rfl, rfl⟩) (by assumption) ?_
          simp only [Act.put, List.setIfInBounds_toArray, List.set_cons_zero, List.set_cons_succ]
          refine wpAnyH_take (i := 16) (oi := ⟨some 55, _, _, _, _, _⟩) (v := undef) rfl (by kernel_rfl) (by kernel_rfl) (by kernel_rfl) (fun _ _ _ h => h) (Or.inr ⟨by rfl, rfl⟩) (by assumption) ?_
          simp only [Act.put, List.setIfInBounds_toArray, List.set_cons_zero, List.set_cons_succ]
          refine wpAnyH_take (i := 17) (oi := ⟨some 56, _, _, _, _, _⟩) (v := ?_) rfl (by kernel_rfl) (by kernel_rfl) (by kernel_rfl) (fun _ _ _ h => h) (Or.inl ⟨by rfl, ?_⟩) (by assumption) ?_
          rotate_left 1
          · intro w hSw
            try dsimp only at hSw
            go_simp
            try simp only [s1, s2, s3]
            try with_reducible rfl
          simp only [Act.put, List.setIfInBounds_toArray, List.set_cons_zero, List.set_cons_succ]
          refine wpAnyH_done (by kernel_rfl) ?_ _
          have HbN := Lib.hid (held_next Hb.out hHeld.1)
          have HWN := Lib.hid (HWr.out.later hHeld.1 HWr.out.lt)
          clear hHeld
          go_wp2_with fail
          go_roundw
          case rel => exact ⟨t, (j : Int) - 1, rfl, rfl, by omega, by omega, (show Best _ _ _ _ _ by rw [show (j : Int) - 1 + 1 = (j : Int) by omega]; exact Hbe.out.down_who Hjw.out), HbN.out, HWN.out⟩
          case measure => simp [intOf]
        · have s1 : ((j : Int) != who) = true := bne_iff_ne.2 hjw
          have Hjw := Lib.hid hjw; clear hjw
          by_cases ht0 : t < 0
          · have s2 : decide (t < 0) = true := decide_eq_true ht0
            have s3 : True := trivial
            have Ht0 := Lib.hid ht0; clear ht0
            have KP : Hid (∀ w', Below wr.heap.size wr w' → (fun w' => Below wr.heap.size wr w' ∧ (w'.cell? ⟨w.heap.size, 0, none⟩ = some (.int .i64 n) ∧ w'.cell? ⟨w.heap.size, 1, none⟩ = some (.int .i64 q) ∧ w'.cell? ⟨w.heap.size, 2, none⟩ = some (.int .i64 r) ∧ w'.cell? ⟨w.heap.size, 3, none⟩ = some (.int .i64 p) ∧ w'.cell? ⟨w.heap.size, 4, none⟩ = some (.int .i64 kk) ∧ w'.cell? ⟨w.heap.size, 5, none⟩ = some (.int .i64 cc))) w') :=
              fun w' h => ⟨h, config_cells (HWr.out.later h HWr.out.lt)⟩
            go_wp2_with fail
            refine wp_region_held_drew (S := (fun w' => Below wr.heap.size wr w' ∧ (w'.cell? ⟨w.heap.size, 0, none⟩ = some (.int .i64 n) ∧ w'.cell? ⟨w.heap.size, 1, none⟩ = some (.int .i64 q) ∧ w'.cell? ⟨w.heap.size, 2, none⟩ = some (.int .i64 r) ∧ w'.cell? ⟨w.heap.size, 3, none⟩ = some (.int .i64 p) ∧ w'.cell? ⟨w.heap.size, 4, none⟩ = some (.int .i64 kk) ∧ w'.cell? ⟨w.heap.size, 5, none⟩ = some (.int .i64 cc)))) (by kernel_rfl) (KP.out _ (Below.refl _ _).drew) (fun hHeld => ?_)
            refine wpAnyH_take (i := 0) (oi := ⟨some 39, _, _, _, _, _⟩) (v := ?_) rfl (by kernel_rfl) (by kernel_rfl) (by kernel_rfl) (fun _ _ _ h => h) (Or.inl ⟨by rfl, ?_⟩) (by assumption) ?_
            rotate_left 1
            · intro w hSw
              try dsimp only at hSw
              go_simp
              try with_reducible rfl
            simp only [Act.put, List.setIfInBounds_toArray, List.set_cons_zero, List.set_cons_succ]
            refine wpAnyH_take (i := 1) (oi := ⟨some 40, _, _, _, _, _⟩) (v := ?_) rfl (by kernel_rfl) (by kernel_rfl) (by kernel_rfl) (fun _ _ _ h => h) (Or.inl ⟨by rfl, ?_⟩) (by assumption) ?_
            rotate_left 1
            · intro w hSw
              try dsimp only at hSw
              go_simp
              try with_reducible rfl
            simp only [Act.put, List.setIfInBounds_toArray, List.set_cons_zero, List.set_cons_succ]
            refine wpAnyH_take (i := 2) (oi := ⟨some 41, _, _, _, _, _⟩) (v := ?_) rfl (by kernel_rfl) (by kernel_rfl) (by kernel_rfl) (fun _ _ _ h => h) (Or.inl ⟨by rfl, ?_⟩) (by assumption) ?_
            rotate_left 1
            · intro w hSw
              try dsimp only at hSw
              go_simp
              try simp only [s1, s2, s3]
              try with_reducible rfl
            simp only [Act.put, List.setIfInBounds_toArray, List.set_cons_zero, List.set_cons_succ]
            refine wpAnyH_take (i := 3) (oi := ⟨some 42, _, _, _, _, _⟩) (v := ?_) rfl (by kernel_rfl) (by kernel_rfl) (by kernel_rfl) (fun _ _ _ h => h) (Or.inl ⟨by rfl, ?_⟩) (by assumption) ?_
            rotate_left 1
            · intro w hSw
              try dsimp only at hSw
              go_simp
              try simp only [s1, s2, s3]
              try with_reducible rfl
            simp only [Act.put, List.setIfInBounds_toArray, List.set_cons_zero, List.set_cons_succ]
            refine wpAnyH_take (i := 4) (oi := ⟨some 43, _, _, _, _, _⟩) (v := ?_) rfl (by kernel_rfl) (by kernel_rfl) (by kernel_rfl) (fun _ _ _ h => h) (Or.inl ⟨by rfl, ?_⟩) (by assumption) ?_
            rotate_left 1
            · intro w hSw
              try dsimp only at hSw
              go_simp
              try with_reducible rfl
            simp only [Act.put, List.setIfInBounds_toArray, List.set_cons_zero, List.set_cons_succ]
            refine wpAnyH_take (i := 5) (oi := ⟨some 44, _, _, _, _, _⟩) (v := ?_) rfl (by kernel_rfl) (by kernel_rfl) (by kernel_rfl) (fun _ _ _ h => h) (Or.inl ⟨by rfl, ?_⟩) (by assumption) ?_
            rotate_left 1
            · intro w hSw
              try dsimp only at hSw
              go_simp
              try simp only [s1, s2, s3]
              try with_reducible rfl
            simp only [Act.put, List.setIfInBounds_toArray, List.set_cons_zero, List.set_cons_succ]
            refine wpAnyH_take (i := 6) (oi := ⟨some 45, _, _, _, _, _⟩) (v := ?_) rfl (by kernel_rfl) (by kernel_rfl) (by kernel_rfl) (fun _ _ _ h => h) (Or.inl ⟨by rfl, ?_⟩) (by assumption) ?_
            rotate_left 1
            · intro w hSw
              try dsimp only at hSw
              go_simp
              try simp only [s1, s2, s3]
              try with_reducible rfl
            simp only [Act.put, List.setIfInBounds_toArray, List.set_cons_zero, List.set_cons_succ]
            refine wpAnyH_take (i := 7) (oi := ⟨some 46, _, _, _, _, _⟩) (v := undef) rfl (by kernel_rfl) (by kernel_rfl) (by kernel_rfl) (fun _ _ _ h => h) (Or.inr ⟨by rfl, rfl⟩) (by assumption) ?_
            simp only [Act.put, List.setIfInBounds_toArray, List.set_cons_zero, List.set_cons_succ]
            refine wpAnyH_take (i := 8) (oi := ⟨some 47, _, _, _, _, _⟩) (v := undef) rfl (by kernel_rfl) (by kernel_rfl) (by kernel_rfl) (fun _ _ _ h => h) (Or.inr ⟨by rfl, rfl⟩) (by assumption) ?_
            simp only [Act.put, List.setIfInBounds_toArray, List.set_cons_zero, List.set_cons_succ]
            refine wpAnyH_take (i := 9) (oi := ⟨some 48, _, _, _, _, _⟩) (v := undef) rfl (by kernel_rfl) (by kernel_rfl) (by kernel_rfl) (fun _ _ _ h => h) (Or.inr ⟨by rfl, rfl⟩) (by assumption) ?_
            simp only [Act.put, List.setIfInBounds_toArray, List.set_cons_zero, List.set_cons_succ]
            refine wpAnyH_take (i := 10) (oi := ⟨some 49, _, _, _, _, _⟩) (v := undef) rfl (by kernel_rfl) (by kernel_rfl) (by kernel_rfl) (fun _ _ _ h => h) (Or.inr ⟨by rfl, rfl⟩) (by assumption) ?_
            simp only [Act.put, List.setIfInBounds_toArray, List.set_cons_zero, List.set_cons_succ]
            refine wpAnyH_take (i := 11) (oi := ⟨some 50, _, _, _, _, _⟩) (v := undef) rfl (by kernel_rfl) (by kernel_rfl) (by kernel_rfl) (fun _ _ _ h => h) (Or.inr ⟨by rfl, rfl⟩) (by assumption) ?_
            simp only [Act.put, List.setIfInBounds_toArray, List.set_cons_zero, List.set_cons_succ]
            refine wpAnyH_take (i := 12) (oi := ⟨some 51, _, _, _, _, _⟩) (v := undef) rfl (by kernel_rfl) (by kernel_rfl) (by kernel_rfl) (fun _ _ _ h => h) (Or.inr ⟨by rfl, rfl⟩) (by assumption) ?_
            simp only [Act.put, List.setIfInBounds_toArray, List.set_cons_zero, List.set_cons_succ]
            refine wpAnyH_take (i := 13) (oi := ⟨some 52, _, _, _, _, _⟩) (v := undef) rfl (by kernel_rfl) (by kernel_rfl) (by kernel_rfl) (fun _ _ _ h => h) (Or.inr ⟨by rfl, rfl⟩) (by assumption) ?_
            simp only [Act.put, List.setIfInBounds_toArray, List.set_cons_zero, List.set_cons_succ]
            refine wpAnyH_take (i := 14) (oi := ⟨some 53, _, _, _, _, _⟩) (v := undef) rfl (by kernel_rfl) (by kernel_rfl) (by kernel_rfl) (fun _ _ _ h => h) (Or.inr ⟨by rfl, rfl⟩) (by assumption) ?_
            simp only [Act.put, List.setIfInBounds_toArray, List.set_cons_zero, List.set_cons_succ]
            refine wpAnyH_take (i := 15) (oi := ⟨some 54, _, _, _, _, _⟩) (v := undef) rfl (by kernel_rfl) (by kernel_rfl) (by kernel_rfl) (fun _ _ _ h => h) (Or.inr ⟨by rfl, rfl⟩) (by assumption) ?_
            simp only [Act.put, List.setIfInBounds_toArray, List.set_cons_zero, List.set_cons_succ]
            refine wpAnyH_take (i := 16) (oi := ⟨some 55, _, _, _, _, _⟩) (v := ?_) rfl (by kernel_rfl) (by kernel_rfl) (by kernel_rfl) (fun _ _ _ h => h) (Or.inl ⟨by rfl, ?_⟩) (by assumption) ?_
            rotate_left 1
            · intro w hSw
              try dsimp only at hSw
              go_simp
              try simp only [s1, s2, s3]
              try with_reducible rfl
            simp only [Act.put, List.setIfInBounds_toArray, List.set_cons_zero, List.set_cons_succ]
            refine wpAnyH_take (i := 17) (oi := ⟨some 56, _, _, _, _, _⟩) (v := ?_) rfl (by kernel_rfl) (by kernel_rfl) (by kernel_rfl) (fun _ _ _ h => h) (Or.inl ⟨by rfl, ?_⟩) (by assumption) ?_
            rotate_left 1
            · intro w hSw
              try dsimp only at hSw
              go_simp
              try simp only [s1, s2, s3]
              try with_reducible rfl
            simp only [Act.put, List.setIfInBounds_toArray, List.set_cons_zero, List.set_cons_succ]
            refine wpAnyH_done (by kernel_rfl) ?_ _
            have HbN := Lib.hid (held_next Hb.out hHeld.1)
            have HWN := Lib.hid (HWr.out.later hHeld.1 HWr.out.lt)
            clear hHeld
            go_wp2_with fail
            go_roundw
            case rel => exact ⟨j, (j : Int) - 1, rfl, rfl, by omega, by omega, (show Best _ _ _ _ _ by rw [show (j : Int) - 1 + 1 = (j : Int) by omega]; exact Hbe.out.down_new hz2 Hjw.out (Or.inl Ht0.out) (by omega)), HbN.out, HWN.out⟩
            case measure => simp [intOf]
          · have s2 : decide (t < 0) = false := decide_eq_false ht0
            have ht0' : 0 ≤ t := by omega
            clear ht0
            by_cases hle : gj ≤ gt
            · have s3 : decide (gj ≤ gt) = true := decide_eq_true hle
              have Hle := Lib.hid hle; clear hle
              have KP : Hid (∀ w', Below wr.heap.size wr w' → (fun w' => Below wr.heap.size wr w' ∧ (w'.cell? ⟨w.heap.size, 0, none⟩ = some (.int .i64 n) ∧ w'.cell? ⟨w.heap.size, 1, none⟩ = some (.int .i64 q) ∧ w'.cell? ⟨w.heap.size, 2, none⟩ = some (.int .i64 r) ∧ w'.cell? ⟨w.heap.size, 3, none⟩ = some (.int .i64 p) ∧ w'.cell? ⟨w.heap.size, 4, none⟩ = some (.int .i64 kk) ∧ w'.cell? ⟨w.heap.size, 5, none⟩ = some (.int .i64 cc))) w') :=
                fun w' h => ⟨h, config_cells (HWr.out.later h HWr.out.lt)⟩
              go_wp2_with fail
              refine wp_region_held_drew (S := (fun w' => Below wr.heap.size wr w' ∧ (w'.cell? ⟨w.heap.size, 0, none⟩ = some (.int .i64 n) ∧ w'.cell? ⟨w.heap.size, 1, none⟩ = some (.int .i64 q) ∧ w'.cell? ⟨w.heap.size, 2, none⟩ = some (.int .i64 r) ∧ w'.cell? ⟨w.heap.size, 3, none⟩ = some (.int .i64 p) ∧ w'.cell? ⟨w.heap.size, 4, none⟩ = some (.int .i64 kk) ∧ w'.cell? ⟨w.heap.size, 5, none⟩ = some (.int .i64 cc)))) (by kernel_rfl) (KP.out _ (Below.refl _ _).drew) (fun hHeld => ?_)
              refine wpAnyH_take (i := 0) (oi := ⟨some 39, _, _, _, _, _⟩) (v := ?_) rfl (by kernel_rfl) (by kernel_rfl) (by kernel_rfl) (fun _ _ _ h => h) (Or.inl ⟨by rfl, ?_⟩) (by assumption) ?_
              rotate_left 1
              · intro w hSw
                try dsimp only at hSw
                go_simp
                try with_reducible rfl
              simp only [Act.put, List.setIfInBounds_toArray, List.set_cons_zero, List.set_cons_succ]
              refine wpAnyH_take (i := 1) (oi := ⟨some 40, _, _, _, _, _⟩) (v := ?_) rfl (by kernel_rfl) (by kernel_rfl) (by kernel_rfl) (fun _ _ _ h => h) (Or.inl ⟨by rfl, ?_⟩) (by assumption) ?_
              rotate_left 1
              · intro w hSw
                try dsimp only at hSw
                go_simp
                try with_reducible rfl
              simp only [Act.put, List.setIfInBounds_toArray, List.set_cons_zero, List.set_cons_succ]
              refine wpAnyH_take (i := 2) (oi := ⟨some 41, _, _, _, _, _⟩) (v := ?_) rfl (by kernel_rfl) (by kernel_rfl) (by kernel_rfl) (fun _ _ _ h => h) (Or.inl ⟨by rfl, ?_⟩) (by assumption) ?_
              rotate_left 1
              · intro w hSw
                try dsimp only at hSw
                go_simp
                try simp only [s1, s2, s3]
                try with_reducible rfl
              simp only [Act.put, List.setIfInBounds_toArray, List.set_cons_zero, List.set_cons_succ]
              refine wpAnyH_take (i := 3) (oi := ⟨some 42, _, _, _, _, _⟩) (v := ?_) rfl (by kernel_rfl) (by kernel_rfl) (by kernel_rfl) (fun _ _ _ h => h) (Or.inl ⟨by rfl, ?_⟩) (by assumption) ?_
              rotate_left 1
              · intro w hSw
                try dsimp only at hSw
                go_simp
                try simp only [s1, s2, s3]
                try with_reducible rfl
              simp only [Act.put, List.setIfInBounds_toArray, List.set_cons_zero, List.set_cons_succ]
              refine wpAnyH_take (i := 4) (oi := ⟨some 43, _, _, _, _, _⟩) (v := ?_) rfl (by kernel_rfl) (by kernel_rfl) (by kernel_rfl) (fun _ _ _ h => h) (Or.inl ⟨by rfl, ?_⟩) (by assumption) ?_
              rotate_left 1
              · intro w hSw
                try dsimp only at hSw
                go_simp
                try with_reducible rfl
              simp only [Act.put, List.setIfInBounds_toArray, List.set_cons_zero, List.set_cons_succ]
              refine wpAnyH_take (i := 5) (oi := ⟨some 44, _, _, _, _, _⟩) (v := ?_) rfl (by kernel_rfl) (by kernel_rfl) (by kernel_rfl) (fun _ _ _ h => h) (Or.inl ⟨by rfl, ?_⟩) (by assumption) ?_
              rotate_left 1
              · intro w hSw
                try dsimp only at hSw
                go_simp
                try simp only [s1, s2, s3]
                try with_reducible rfl
              simp only [Act.put, List.setIfInBounds_toArray, List.set_cons_zero, List.set_cons_succ]
              refine wpAnyH_take (i := 6) (oi := ⟨some 45, _, _, _, _, _⟩) (v := ?_) rfl (by kernel_rfl) (by kernel_rfl) (by kernel_rfl) (fun _ _ _ h => h) (Or.inl ⟨by rfl, ?_⟩) (by assumption) ?_
              rotate_left 1
              · intro w hSw
                try dsimp only at hSw
                go_simp
                try simp only [s1, s2, s3]
                try with_reducible rfl
              simp only [Act.put, List.setIfInBounds_toArray, List.set_cons_zero, List.set_cons_succ]
              refine wpAnyH_take (i := 7) (oi := ⟨some 46, _, _, _, _, _⟩) (v := ?_) rfl (by kernel_rfl) (by kernel_rfl) (by kernel_rfl) (fun _ _ _ h => h) (Or.inl ⟨by rfl, ?_⟩) (by assumption) ?_
              rotate_left 1
              · intro w hSw
                try dsimp only at hSw
                go_simp
                try with_reducible rfl
              simp only [Act.put, List.setIfInBounds_toArray, List.set_cons_zero, List.set_cons_succ]
              refine wpAnyH_take (i := 8) (oi := ⟨some 47, _, _, _, _, _⟩) (v := ?_) rfl (by kernel_rfl) (by kernel_rfl) (by kernel_rfl) (fun _ _ _ h => h) (Or.inl ⟨by rfl, ?_⟩) (by assumption) ?_
              rotate_left 1
              · intro w hSw
                try dsimp only at hSw
                go_simp
                try with_reducible rfl
              simp only [Act.put, List.setIfInBounds_toArray, List.set_cons_zero, List.set_cons_succ]
              refine wpAnyH_take (i := 9) (oi := ⟨some 48, _, _, _, _, _⟩) (v := ?_) rfl (by kernel_rfl) (by kernel_rfl) (by kernel_rfl) (fun _ _ _ h => h) (Or.inl ⟨by rfl, ?_⟩) (by assumption) ?_
              rotate_left 1
              · intro w hSw
                try dsimp only at hSw
                go_simp
                try with_reducible rfl
              simp only [Act.put, List.setIfInBounds_toArray, List.set_cons_zero, List.set_cons_succ]
              refine wpAnyH_take (i := 11) (oi := ⟨some 50, _, _, _, _, _⟩) (v := ?_) rfl (by kernel_rfl) (by kernel_rfl) (by kernel_rfl) (fun _ _ _ h => h) (Or.inl ⟨by rfl, ?_⟩) (by assumption) ?_
              rotate_left 1
              · intro w hSw
                try dsimp only at hSw
                go_simp
                try with_reducible rfl
              simp only [Act.put, List.setIfInBounds_toArray, List.set_cons_zero, List.set_cons_succ]
              refine wpAnyH_take (i := 12) (oi := ⟨some 51, _, _, _, _, _⟩) (v := ?_) rfl (by kernel_rfl) (by kernel_rfl) (by kernel_rfl) (fun _ _ _ h => h) (Or.inl ⟨by rfl, ?_⟩) (by assumption) ?_
              rotate_left 1
              · intro w hSw
                try dsimp only at hSw
                go_simp
                try with_reducible rfl
              simp only [Act.put, List.setIfInBounds_toArray, List.set_cons_zero, List.set_cons_succ]
              refine wpAnyH_take (i := 13) (oi := ⟨some 52, _, _, _, _, _⟩) (v := ?_) rfl (by kernel_rfl) (by kernel_rfl) (by kernel_rfl) (fun _ _ _ h => h) (Or.inl ⟨by rfl, ?_⟩) (by assumption) ?_
              rotate_left 1
              · intro w hSw
                try dsimp only at hSw
                go_simp
                try with_reducible rfl
              simp only [Act.put, List.setIfInBounds_toArray, List.set_cons_zero, List.set_cons_succ]
              refine wpAnyH_ready (rs := [10]) (by kernel_rfl) (by simp) ?_
              refine AllReadyH.cons rfl (fun K hK => ?_) AllReadyH.nil
              go_simp
              go_wp2_with (go_at_call 13; refine (refOf_calls ⟨n, q, r, p, kk, cc⟩ a m cp l j Hm.out _ (HB.out.later (held_next Hb.out hHeld.1))).mono ?_; rw [Hgj.out]; rintro ee wo ⟨rfl, hb2⟩; have hS1 := held_next hHeld.1 hb2)
              refine hK.out _ _ (KP.out _ hS1) (fun hHeld2 => ?_)
              clear hHeld hK K
              have hHeld := hHeld2
              clear hHeld2
              refine wpAnyH_ready (rs := [14]) (by kernel_rfl) (by simp) ?_
              refine AllReadyH.cons rfl (fun K hK => ?_) AllReadyH.nil
              go_simp
              go_wp2_with (go_at_call 13; refine (refOf_calls ⟨n, q, r, p, kk, cc⟩ a m cp l t Hm.out _ (HB.out.later (held_next Hb.out hHeld.1))).mono ?_; rw [Hgt.out]; rintro ee wo ⟨rfl, hb2⟩; have hS1 := held_next hHeld.1 hb2)
              refine hK.out _ _ (KP.out _ hS1) (fun hHeld2 => ?_)
              clear hHeld hK K
              have hHeld := hHeld2
              clear hHeld2
              refine wpAnyH_take (i := 15) (oi := ⟨some 54, _, _, _, _, _⟩) (v := ?_) rfl (by kernel_rfl) (by kernel_rfl) (by kernel_rfl) (fun _ _ _ h => h) (Or.inl ⟨by rfl, ?_⟩) (by assumption) ?_
              rotate_left 1
              · intro w hSw
                try dsimp only at hSw
                go_simp
                try simp only [s1, s2, s3]
                try with_reducible rfl
              simp only [Act.put, List.setIfInBounds_toArray, List.set_cons_zero, List.set_cons_succ]
              refine wpAnyH_take (i := 16) (oi := ⟨some 55, _, _, _, _, _⟩) (v := ?_) rfl (by kernel_rfl) (by kernel_rfl) (by kernel_rfl) (fun _ _ _ h => h) (Or.inl ⟨by rfl, ?_⟩) (by assumption) ?_
              rotate_left 1
              · intro w hSw
                try dsimp only at hSw
                go_simp
                try simp only [s1, s2, s3]
                try with_reducible rfl
              simp only [Act.put, List.setIfInBounds_toArray, List.set_cons_zero, List.set_cons_succ]
              refine wpAnyH_take (i := 17) (oi := ⟨some 56, _, _, _, _, _⟩) (v := ?_) rfl (by kernel_rfl) (by kernel_rfl) (by kernel_rfl) (fun _ _ _ h => h) (Or.inl ⟨by rfl, ?_⟩) (by assumption) ?_
              rotate_left 1
              · intro w hSw
                try dsimp only at hSw
                go_simp
                try simp only [s1, s2, s3]
                try with_reducible rfl
              simp only [Act.put, List.setIfInBounds_toArray, List.set_cons_zero, List.set_cons_succ]
              refine wpAnyH_done (by kernel_rfl) ?_ _
              have HbN := Lib.hid (held_next Hb.out hHeld.1)
              have HWN := Lib.hid (HWr.out.later hHeld.1 HWr.out.lt)
              clear hHeld
              go_wp2_with fail
              go_roundw
              case rel => exact ⟨j, (j : Int) - 1, rfl, rfl, by omega, by omega, (show Best _ _ _ _ _ by rw [show (j : Int) - 1 + 1 = (j : Int) by omega]; exact Hbe.out.down_new hz2 Hjw.out (Or.inr (by rw [Hgj'.out, Hgt'.out]; exact Hle.out)) (by omega)), HbN.out, HWN.out⟩
              case measure => simp [intOf]
            · have s3 : decide (gj ≤ gt) = false := decide_eq_false hle
              have Hle := Lib.hid hle; clear hle
              have KP : Hid (∀ w', Below wr.heap.size wr w' → (fun w' => Below wr.heap.size wr w' ∧ (w'.cell? ⟨w.heap.size, 0, none⟩ = some (.int .i64 n) ∧ w'.cell? ⟨w.heap.size, 1, none⟩ = some (.int .i64 q) ∧ w'.cell? ⟨w.heap.size, 2, none⟩ = some (.int .i64 r) ∧ w'.cell? ⟨w.heap.size, 3, none⟩ = some (.int .i64 p) ∧ w'.cell? ⟨w.heap.size, 4, none⟩ = some (.int .i64 kk) ∧ w'.cell? ⟨w.heap.size, 5, none⟩ = some (.int .i64 cc))) w') :=
                fun w' h => ⟨h, config_cells (HWr.out.later h HWr.out.lt)⟩
              go_wp2_with fail
              refine wp_region_held_drew (S := (fun w' => Below wr.heap.size wr w' ∧ (w'.cell? ⟨w.heap.size, 0, none⟩ = some (.int .i64 n) ∧ w'.cell? ⟨w.heap.size, 1, none⟩ = some (.int .i64 q) ∧ w'.cell? ⟨w.heap.size, 2, none⟩ = some (.int .i64 r) ∧ w'.cell? ⟨w.heap.size, 3, none⟩ = some (.int .i64 p) ∧ w'.cell? ⟨w.heap.size, 4, none⟩ = some (.int .i64 kk) ∧ w'.cell? ⟨w.heap.size, 5, none⟩ = some (.int .i64 cc)))) (by kernel_rfl) (KP.out _ (Below.refl _ _).drew) (fun hHeld => ?_)
              refine wpAnyH_take (i := 0) (oi := ⟨some 39, _, _, _, _, _⟩) (v := ?_) rfl (by kernel_rfl) (by kernel_rfl) (by kernel_rfl) (fun _ _ _ h => h) (Or.inl ⟨by rfl, ?_⟩) (by assumption) ?_
              rotate_left 1
              · intro w hSw
                try dsimp only at hSw
                go_simp
                try with_reducible rfl
              simp only [Act.put, List.setIfInBounds_toArray, List.set_cons_zero, List.set_cons_succ]
              refine wpAnyH_take (i := 1) (oi := ⟨some 40, _, _, _, _, _⟩) (v := ?_) rfl (by kernel_rfl) (by kernel_rfl) (by kernel_rfl) (fun _ _ _ h => h) (Or.inl ⟨by rfl, ?_⟩) (by assumption) ?_
              rotate_left 1
              · intro w hSw
                try dsimp only at hSw
                go_simp
                try with_reducible rfl
              simp only [Act.put, List.setIfInBounds_toArray, List.set_cons_zero, List.set_cons_succ]
              refine wpAnyH_take (i := 2) (oi := ⟨some 41, _, _, _, _, _⟩) (v := ?_) rfl (by kernel_rfl) (by kernel_rfl) (by kernel_rfl) (fun _ _ _ h => h) (Or.inl ⟨by rfl, ?_⟩) (by assumption) ?_
              rotate_left 1
              · intro w hSw
                try dsimp only at hSw
                go_simp
                try simp only [s1, s2, s3]
                try with_reducible rfl
              simp only [Act.put, List.setIfInBounds_toArray, List.set_cons_zero, List.set_cons_succ]
              refine wpAnyH_take (i := 3) (oi := ⟨some 42, _, _, _, _, _⟩) (v := ?_) rfl (by kernel_rfl) (by kernel_rfl) (by kernel_rfl) (fun _ _ _ h => h) (Or.inl ⟨by rfl, ?_⟩) (by assumption) ?_
              rotate_left 1
              · intro w hSw
                try dsimp only at hSw
                go_simp
                try simp only [s1, s2, s3]
                try with_reducible rfl
              simp only [Act.put, List.setIfInBounds_toArray, List.set_cons_zero, List.set_cons_succ]
              refine wpAnyH_take (i := 4) (oi := ⟨some 43, _, _, _, _, _⟩) (v := ?_) rfl (by kernel_rfl) (by kernel_rfl) (by kernel_rfl) (fun _ _ _ h => h) (Or.inl ⟨by rfl, ?_⟩) (by assumption) ?_
              rotate_left 1
              · intro w hSw
                try dsimp only at hSw
                go_simp
                try with_reducible rfl
              simp only [Act.put, List.setIfInBounds_toArray, List.set_cons_zero, List.set_cons_succ]
              refine wpAnyH_take (i := 5) (oi := ⟨some 44, _, _, _, _, _⟩) (v := ?_) rfl (by kernel_rfl) (by kernel_rfl) (by kernel_rfl) (fun _ _ _ h => h) (Or.inl ⟨by rfl, ?_⟩) (by assumption) ?_
              rotate_left 1
              · intro w hSw
                try dsimp only at hSw
                go_simp
                try simp only [s1, s2, s3]
                try with_reducible rfl
              simp only [Act.put, List.setIfInBounds_toArray, List.set_cons_zero, List.set_cons_succ]
              refine wpAnyH_take (i := 6) (oi := ⟨some 45, _, _, _, _, _⟩) (v := ?_) rfl (by kernel_rfl) (by kernel_rfl) (by kernel_rfl) (fun _ _ _ h => h) (Or.inl ⟨by rfl, ?_⟩) (by assumption) ?_
              rotate_left 1
              · intro w hSw
                try dsimp only at hSw
                go_simp
                try simp only [s1, s2, s3]
                try with_reducible rfl
              simp only [Act.put, List.setIfInBounds_toArray, List.set_cons_zero, List.set_cons_succ]
              refine wpAnyH_take (i := 7) (oi := ⟨some 46, _, _, _, _, _⟩) (v := ?_) rfl (by kernel_rfl) (by kernel_rfl) (by kernel_rfl) (fun _ _ _ h => h) (Or.inl ⟨by rfl, ?_⟩) (by assumption) ?_
              rotate_left 1
              · intro w hSw
                try dsimp only at hSw
                go_simp
                try with_reducible rfl
              simp only [Act.put, List.setIfInBounds_toArray, List.set_cons_zero, List.set_cons_succ]
              refine wpAnyH_take (i := 8) (oi := ⟨some 47, _, _, _, _, _⟩) (v := ?_) rfl (by kernel_rfl) (by kernel_rfl) (by kernel_rfl) (fun _ _ _ h => h) (Or.inl ⟨by rfl, ?_⟩) (by assumption) ?_
              rotate_left 1
              · intro w hSw
                try dsimp only at hSw
                go_simp
                try with_reducible rfl
              simp only [Act.put, List.setIfInBounds_toArray, List.set_cons_zero, List.set_cons_succ]
              refine wpAnyH_take (i := 9) (oi := ⟨some 48, _, _, _, _, _⟩) (v := ?_) rfl (by kernel_rfl) (by kernel_rfl) (by kernel_rfl) (fun _ _ _ h => h) (Or.inl ⟨by rfl, ?_⟩) (by assumption) ?_
              rotate_left 1
              · intro w hSw
                try dsimp only at hSw
                go_simp
                try with_reducible rfl
              simp only [Act.put, List.setIfInBounds_toArray, List.set_cons_zero, List.set_cons_succ]
              refine wpAnyH_take (i := 11) (oi := ⟨some 50, _, _, _, _, _⟩) (v := ?_) rfl (by kernel_rfl) (by kernel_rfl) (by kernel_rfl) (fun _ _ _ h => h) (Or.inl ⟨by rfl, ?_⟩) (by assumption) ?_
              rotate_left 1
              · intro w hSw
                try dsimp only at hSw
                go_simp
                try with_reducible rfl
              simp only [Act.put, List.setIfInBounds_toArray, List.set_cons_zero, List.set_cons_succ]
              refine wpAnyH_take (i := 12) (oi := ⟨some 51, _, _, _, _, _⟩) (v := ?_) rfl (by kernel_rfl) (by kernel_rfl) (by kernel_rfl) (fun _ _ _ h => h) (Or.inl ⟨by rfl, ?_⟩) (by assumption) ?_
              rotate_left 1
              · intro w hSw
                try dsimp only at hSw
                go_simp
                try with_reducible rfl
              simp only [Act.put, List.setIfInBounds_toArray, List.set_cons_zero, List.set_cons_succ]
              refine wpAnyH_take (i := 13) (oi := ⟨some 52, _, _, _, _, _⟩) (v := ?_) rfl (by kernel_rfl) (by kernel_rfl) (by kernel_rfl) (fun _ _ _ h => h) (Or.inl ⟨by rfl, ?_⟩) (by assumption) ?_
              rotate_left 1
              · intro w hSw
                try dsimp only at hSw
                go_simp
                try with_reducible rfl
              simp only [Act.put, List.setIfInBounds_toArray, List.set_cons_zero, List.set_cons_succ]
              refine wpAnyH_ready (rs := [10]) (by kernel_rfl) (by simp) ?_
              refine AllReadyH.cons rfl (fun K hK => ?_) AllReadyH.nil
              go_simp
              go_wp2_with (go_at_call 13; refine (refOf_calls ⟨n, q, r, p, kk, cc⟩ a m cp l j Hm.out _ (HB.out.later (held_next Hb.out hHeld.1))).mono ?_; rw [Hgj.out]; rintro ee wo ⟨rfl, hb2⟩; have hS1 := held_next hHeld.1 hb2)
              refine hK.out _ _ (KP.out _ hS1) (fun hHeld2 => ?_)
              clear hHeld hK K
              have hHeld := hHeld2
              clear hHeld2
              refine wpAnyH_ready (rs := [14]) (by kernel_rfl) (by simp) ?_
              refine AllReadyH.cons rfl (fun K hK => ?_) AllReadyH.nil
              go_simp
              go_wp2_with (go_at_call 13; refine (refOf_calls ⟨n, q, r, p, kk, cc⟩ a m cp l t Hm.out _ (HB.out.later (held_next Hb.out hHeld.1))).mono ?_; rw [Hgt.out]; rintro ee wo ⟨rfl, hb2⟩; have hS1 := held_next hHeld.1 hb2)
              refine hK.out _ _ (KP.out _ hS1) (fun hHeld2 => ?_)
              clear hHeld hK K
              have hHeld := hHeld2
              clear hHeld2
              refine wpAnyH_take (i := 15) (oi := ⟨some 54, _, _, _, _, _⟩) (v := ?_) rfl (by kernel_rfl) (by kernel_rfl) (by kernel_rfl) (fun _ _ _ h => h) (Or.inl ⟨by rfl, ?_⟩) (by assumption) ?_
              rotate_left 1
              · intro w hSw
                try dsimp only at hSw
                go_simp
                try simp only [s1, s2, s3]
                try with_reducible rfl
              simp only [Act.put, List.setIfInBounds_toArray, List.set_cons_zero, List.set_cons_succ]
              refine wpAnyH_take (i := 16) (oi := ⟨some 55, _, _, _, _, _⟩) (v := ?_) rfl (by kernel_rfl) (by kernel_rfl) (by kernel_rfl) (fun _ _ _ h => h) (Or.inl ⟨by rfl, ?_⟩) (by assumption) ?_
              rotate_left 1
              · intro w hSw
                try dsimp only at hSw
                go_simp
                try simp only [s1, s2, s3]
                try with_reducible rfl
              simp only [Act.put, List.setIfInBounds_toArray, List.set_cons_zero, List.set_cons_succ]
              refine wpAnyH_take (i := 17) (oi := ⟨some 56, _, _, _, _, _⟩) (v := ?_) rfl (by kernel_rfl) (by kernel_rfl) (by kernel_rfl) (fun _ _ _ h => h) (Or.inl ⟨by rfl, ?_⟩) (by assumption) ?_
              rotate_left 1
              · intro w hSw
                try dsimp only at hSw
                go_simp
                try simp only [s1, s2, s3]
                try with_reducible rfl
              simp only [Act.put, List.setIfInBounds_toArray, List.set_cons_zero, List.set_cons_succ]
              refine wpAnyH_done (by kernel_rfl) ?_ _
              have HbN := Lib.hid (held_next Hb.out hHeld.1)
              have HWN := Lib.hid (HWr.out.later hHeld.1 HWr.out.lt)
              clear hHeld
              go_wp2_with fail
              go_roundw
              case rel => exact ⟨t, (j : Int) - 1, rfl, rfl, by omega, by omega, (show Best _ _ _ _ _ by rw [show (j : Int) - 1 + 1 = (j : Int) by omega]; exact Hbe.out.down_old ht0' (by rw [Hgj'.out, Hgt'.out]; have := Hle.out; omega)), HbN.out, HWN.out⟩
              case measure => simp [intOf]
      · have hz : z = -1 := by omega
        subst hz
        have hbe := Hbe.out
        rw [show (-1 : Int) + 1 = 0 by decide] at hbe
        have htu := hbe.is hn2
        obtain ⟨ht1, ht2, _, _⟩ := hbe.poor hn2
        have Htu := Lib.hid htu
        clear htu hbe Hbe hz1 hz2
        have hsb := spareV_bound ⟨n, q, r, p, kk, cc⟩ l who keep
        have hgw := Hgb.out who
        have hgt := Hgb.out t
        rw [Hg.out] at hsb
        obtain ⟨sp, Hsp⟩ : ∃ z, Hid (spareV ⟨n, q, r, p, kk, cc⟩ l who keep = z) := ⟨_, rfl⟩
        obtain ⟨gt, Hgt⟩ : ∃ z, Hid (g t = z) := ⟨_, rfl⟩
        rw [Hsp.out] at hsb
        rw [Hgt.out] at hgt
        obtain ⟨hs1, hs2⟩ := hsb
        obtain ⟨hg1, hg2⟩ := hgt
        have hsb3 : sp ≤ 19140298416324608 := by omega
        have hgive : res = if sp - gt < 2 then (0, 0) else (t, (sp - gt) / 2) := by
          rw [← Hres.out]
          unfold giveV
          have hro : rightOk ⟨n, q, r, p, kk, cc⟩ l ∧ 0 ≤ who ∧ who < n ∧ n ≠ 1 := ⟨Hro.out, Hwho.out⟩
          rw [if_pos hro, Hsp.out, Hg.out]
          show (if sp - g (poorU g who n.toNat) < 2 then ((0, 0) : Int × Int) else (poorU g who n.toNat, (sp - g (poorU g who n.toNat)) / 2)) = _
          rw [← Htu.out, Hgt.out]
        have Hgive := Lib.hid hgive
        clear hgive hgw hs2
        have O1 : Hid (∀ w', Below wr.heap.size wr w' → Calls Try.prog 21 #[cfV ⟨n, q, r, p, kk, cc⟩, .slice a m cp, .int .i64 who, .int .i64 keep] w' (Num w' sp)) := by
          intro w' h; have h2 := refspare_calls ⟨n, q, r, p, kk, cc⟩ a m cp l who keep Hm.out w' (HB.out.later (held_next Hb.out h)); rwa [Hsp.out] at h2
        have O2 : Hid (∀ w', Below wr.heap.size wr w' → Calls Try.prog 13 #[cfV ⟨n, q, r, p, kk, cc⟩, .slice a m cp, .int .i64 t] w' (Num w' gt)) := by
          intro w' h; have h2 := refOf_calls ⟨n, q, r, p, kk, cc⟩ a m cp l t Hm.out w' (HB.out.later (held_next Hb.out h)); rwa [Hg.out, Hgt.out] at h2
        have KP : Hid (∀ w', Below wr.heap.size wr w' → (fun w' => Below wr.heap.size wr w' ∧ (w'.cell? ⟨w.heap.size, 0, none⟩ = some (.int .i64 n) ∧ w'.cell? ⟨w.heap.size, 1, none⟩ = some (.int .i64 q) ∧ w'.cell? ⟨w.heap.size, 2, none⟩ = some (.int .i64 r) ∧ w'.cell? ⟨w.heap.size, 3, none⟩ = some (.int .i64 p) ∧ w'.cell? ⟨w.heap.size, 4, none⟩ = some (.int .i64 kk) ∧ w'.cell? ⟨w.heap.size, 5, none⟩ = some (.int .i64 cc))) w') :=
          fun w' h => ⟨h, config_cells (HWr.out.later h HWr.out.lt)⟩
        clear hz0
        go_wp2_with fail
        go_region_held3 (fun w' => Below wr.heap.size wr w' ∧ (w'.cell? ⟨w.heap.size, 0, none⟩ = some (.int .i64 n) ∧ w'.cell? ⟨w.heap.size, 1, none⟩ = some (.int .i64 q) ∧ w'.cell? ⟨w.heap.size, 2, none⟩ = some (.int .i64 r) ∧ w'.cell? ⟨w.heap.size, 3, none⟩ = some (.int .i64 p) ∧ w'.cell? ⟨w.heap.size, 4, none⟩ = some (.int .i64 kk) ∧ w'.cell? ⟨w.heap.size, 5, none⟩ = some (.int .i64 cc)))
          (first | exact KP.out _ (Below.refl _ _).drew | (refine KP.out _ ?_; assumption))
          (first | (go_at_call 21; have hcur := (‹Below wr.heap.size wr _ ∧ _›).1; have hcall := O1.out _ hcur; (with_reducible refine hcall.mono ?_); rintro ee wn ⟨rfl, hb⟩; have hS := held_next hcur hb; clear hb hcall) | (go_at_call 13; have hcur := (‹Below wr.heap.size wr _ ∧ _›).1; have hcall := O2.out _ hcur; (with_reducible refine hcall.mono ?_); rintro ee wn ⟨rfl, hb⟩; have hS := held_next hcur hb; clear hb hcall))
        have HbN := Lib.hid (held_next Hb.out (‹Below wr.heap.size wr _ ∧ _›).1)
        by_cases hd : sp - gt < 2
        · obtain rfl : res = (0, 0) := by rw [Hgive.out, if_pos hd]
          go_wp2_with fail
          go_ret2
          exact ⟨by rfl, HbN.out⟩
        · obtain ⟨h, hh⟩ : ∃ h : Nat, sp - gt = h := ⟨(sp - gt).toNat, by omega⟩
          have Hfin : Hid (res = (t, (sp - gt) / 2)) := Lib.hid (by rw [Hgive.out, if_neg hd])
          clear hh
          go_wp2_with fail
          go_ret2
          exact ⟨by rw [Hfin.out]; rfl, HbN.out⟩
set_option maxRecDepth 100000 in
set_option maxHeartbeats 8000000 in
theorem refgrant_calls (c : Cf) (a : Option Addr) (m cp : Nat) (l : List Rw) (who keep tg need : Int) (hm : m = l.length) (w : World) (hB : Books w (.slice a m cp) l) :
    Calls Try.prog 11 #[cfV c, .slice a m cp, .int .i64 who, .int .i64 keep, .int .i64 tg, .int .i64 need] w (Num w (grantV c l who keep tg need)) := by
  have hbig : m ≤ 9223372036854775807 := by rw [hm]; exact hB.big
  have HW := Lib.hid (Whole.made w 23 (cfCells c))
  have Hb0 := Lib.hid (below_box w (.cells (cfCells c) 23))
  have HB := Lib.hid hB; clear hB
  have Hm := Lib.hid hm; clear hm
  obtain ⟨n, q, r, p, kk, cc⟩ := c
  obtain ⟨res, Hres⟩ : ∃ z, Hid (grantV ⟨n, q, r, p, kk, cc⟩ l who keep tg need = z) := ⟨_, rfl⟩
  rw [Hres.out]
  obtain ⟨ok, Hok⟩ : ∃ z, Hid (rightB ⟨n, q, r, p, kk, cc⟩ l = z) := ⟨_, rfl⟩
  go_enter Try.func11, Try.ntmps11
  go_wp2_with fail
  refine (refright_calls ⟨n, q, r, p, kk, cc⟩ a m cp l Hm.out _ (HB.out.later Hb0.out)).mono ?_
  rintro e w1 ⟨rfl, hb⟩
  rw [Hok.out]
  have Hb1 := Lib.hid (held_next Hb0.out hb)
  have HW1 := Lib.hid (HW.out.later hb HW.out.lt)
  clear hb
  obtain ⟨d0, d1, d2, d3, d4, d5⟩ := config_cells HW1.out
  simp only at d0 d1 d2 d3 d4 d5
  cases ok with
  | false =>
    obtain rfl : res = 0 := Hres.out.symm.trans (grantV_no fun h => by
      have : rightB ⟨n, q, r, p, kk, cc⟩ l = true := decide_eq_true h.1
      rw [Hok.out] at this
      cases this)
    go_wp2_with fail
    go_ret
    exact ⟨by rfl, Hb1.out⟩
  | true =>
    have Hro := Lib.hid (rightB_ok Hok.out)
    by_cases h1 : who < 0
    · obtain rfl : res = 0 := Hres.out.symm.trans (grantV_no fun h => by have := h.2.1.1; omega)
      go_wp2_with fail
      go_ret
      exact ⟨by rfl, Hb1.out⟩
    by_cases h2 : n ≤ who
    · obtain rfl : res = 0 := Hres.out.symm.trans (grantV_no fun h => by have h3 : who < n := h.2.1.2; omega)
      go_wp2_with fail
      go_ret
      exact ⟨by rfl, Hb1.out⟩
    by_cases h3 : tg < 0
    · obtain rfl : res = 0 := Hres.out.symm.trans (grantV_no fun h => by have := h.2.2.1.1; omega)
      go_wp2_with fail
      go_ret
      exact ⟨by rfl, Hb1.out⟩
    by_cases h4 : n ≤ tg
    · obtain rfl : res = 0 := Hres.out.symm.trans (grantV_no fun h => by have h3 : tg < n := h.2.2.1.2; omega)
      go_wp2_with fail
      go_ret
      exact ⟨by rfl, Hb1.out⟩
    by_cases h5 : tg = who
    · obtain rfl : res = 0 := Hres.out.symm.trans (grantV_no fun h => h.2.2.2.1 h5)
      subst h5
      go_wp2_with fail
      go_ret
      exact ⟨by rfl, Hb1.out⟩
    have h5' : (tg == who) = false := beq_eq_false_iff_ne.2 h5
    by_cases h6 : 1099511627776 < need
    · obtain rfl : res = 0 := Hres.out.symm.trans (grantV_no fun h => by have := h.2.2.2.2.1; omega)
      clear h5
      go_wp2_with fail
      go_ret
      exact ⟨by rfl, Hb1.out⟩
    have H5 := Lib.hid h5; clear h5
    have hcall := fun w hw => refOf_calls ⟨n, q, r, p, kk, cc⟩ a m cp l tg Hm.out w hw
    have hgb := ofV_bound ⟨n, q, r, p, kk, cc⟩ l tg
    have hsb := spareV_bound ⟨n, q, r, p, kk, cc⟩ l who keep
    have hso := ofV_bound ⟨n, q, r, p, kk, cc⟩ l who
    obtain ⟨o, Ho⟩ : ∃ z, Hid (ofV ⟨n, q, r, p, kk, cc⟩ l tg = z) := ⟨_, rfl⟩
    rw [Ho.out] at hcall hgb
    obtain ⟨g1, g2⟩ := hgb
    obtain ⟨sp, Hsp⟩ : ∃ z, Hid (spareV ⟨n, q, r, p, kk, cc⟩ l who keep = z) := ⟨_, rfl⟩
    rw [Hsp.out] at hsb
    have hs1 := hsb.1
    have hs2 : sp ≤ 19140298416324608 := by omega
    clear hsb hso
    have Hcall := Lib.hid hcall; clear hcall
    go_wp2_with fail
    refine (Hcall.out _ (HB.out.later Hb1.out)).mono ?_
    rintro e w2 ⟨rfl, hb⟩
    have Hb2 := Lib.hid (held_next Hb1.out hb)
    have HW2 := Lib.hid (HW1.out.later hb HW1.out.lt)
    clear hb d0 d1 d2 d3 d4 d5
    obtain ⟨d0, d1, d2, d3, d4, d5⟩ := config_cells HW2.out
    simp only at d0 d1 d2 d3 d4 d5
    by_cases h7 : need < 1
    · obtain rfl : res = 0 := Hres.out.symm.trans (grantV_no fun h => by have := h.2.2.2.2.2.1; omega)
      go_wp2_with fail
      all_goals (go_ret; exact ⟨by rfl, Hb2.out⟩)
    by_cases h8 : need - o < 1
    · obtain rfl : res = 0 := Hres.out.symm.trans (grantV_no fun h => by have h3 := h.2.2.2.2.2.2; rw [Ho.out] at h3; omega)
      go_wp2_with fail
      go_ret
      exact ⟨by rfl, Hb2.out⟩
    have hres : res = min (need - o) sp := by
      rw [← Hres.out]
      unfold grantV
      have hc : rightOk ⟨n, q, r, p, kk, cc⟩ l ∧ (0 ≤ who ∧ who < n) ∧ (0 ≤ tg ∧ tg < n) ∧ tg ≠ who ∧ need ≤ 1099511627776 ∧ 1 ≤ need ∧ 1 ≤ need - ofV ⟨n, q, r, p, kk, cc⟩ l tg := by
        rw [Ho.out]; exact ⟨Hro.out, ⟨by omega, by omega⟩, ⟨by omega, by omega⟩, H5.out, by omega, by omega, by omega⟩
      rw [if_pos hc, Ho.out, Hsp.out]
    have Hmin := Lib.hid hres; clear hres
    have hcall := refspare_calls ⟨n, q, r, p, kk, cc⟩ a m cp l who keep Hm.out w2 (HB.out.later Hb2.out)
    rw [Hsp.out] at hcall
    have Hcall2 := Lib.hid hcall; clear hcall
    go_wp2_with fail
    refine Hcall2.out.mono ?_
    rintro e w3 ⟨rfl, hb⟩
    have Hb3 := Lib.hid (held_next Hb2.out hb)
    clear hb
    by_cases h9 : sp < need - o
    · obtain rfl : res = sp := by rw [Hmin.out]; omega
      go_wp2_with fail
      go_ret
      exact ⟨by rfl, Hb3.out⟩
    · obtain rfl : res = need - o := by rw [Hmin.out]; omega
      go_wp2_with fail
      go_ret
      exact ⟨by rfl, Hb3.out⟩
end Go.Proofs.Ytkkhecdmjcffjaa
