/- RightsTells, walked. -/
import Derived.Test.YtlhfggnnikmikaaRightsAwake
import Derived.Test.YtlhfggnnikmikaaRefRightsSame
import Derived.Deep.RegionHeld3
namespace Go.Proofs.Ytlhfggnnikmikaa
open Go.RowKit

theorem newL_len (c : Cf) : (newL c).length ≤ 16 ∧ ∀ k, k < (newL c).length → (at_ (newL c) k).out.length ≤ 16 := by
  unfold newL
  split
  · rename_i h
    obtain ⟨h1, h2, _⟩ := h
    refine ⟨by rw [List.length_replicate]; omega, fun k hk => ?_⟩
    rw [List.length_replicate] at hk
    simp [at_, hk, zeroRow]; omega
  · exact ⟨by decide, fun k hk => absurd hk (by simp)⟩

set_option maxRecDepth 100000 in
set_option maxHeartbeats 16000000 in
theorem rightstells_law (c : Cf) (a : Option Addr) (m d : Nat) (l : List Rw) (who : Int) (W : World) (hm : m = l.length) (hA : Books W (.slice a m d) l) (hR : Reach l) :
    Calls Try.prog 3 #[cfV c, .slice a m d, .int .i64 who] W (Says W true) := by
  have HW0 := Lib.hid (Whole.made W 23 (cfCells c))
  have Hb0 := Lib.hid (below_box W (.cells (cfCells c) 23))
  have HA := Lib.hid hA; clear hA
  have Hm := Lib.hid hm; clear hm
  have Ra := Lib.hid hR; clear hR
  obtain ⟨sa, Hsa⟩ : ∃ z, Hid (shortB l = z) := ⟨_, rfl⟩
  obtain ⟨n, q, r, p, kk, cc⟩ := c
  go_enter Try.func3, Try.ntmps3
  go_wp2_with fail
  refine (awake5 _).mono ?_
  rintro e w1 ⟨rfl, hb⟩
  have Hb1 := Lib.hid (held_next Hb0.out hb)
  have HW1 := Lib.hid (HW0.out.later hb HW0.out.lt)
  clear hb
  go_wp2_with fail
  refine (refshort_calls a m d l Hm.out Ra.out _ (HA.out.later Hb1.out)).mono ?_
  rintro e wr ⟨rfl, hb⟩
  rw [Hsa.out]
  have Hb := Lib.hid (held_next Hb1.out hb)
  have HW := Lib.hid (HW1.out.later hb HW1.out.lt)
  clear hb HW0 HW1 Hb0 Hb1
  cases sa with
  | false =>
    go_wp2_with fail
    go_ret
    exact ⟨rfl, Hb.out⟩
  | true =>
    have HAr := Lib.hid (HA.out.later Hb.out)
    obtain ⟨ok, Hok⟩ : ∃ z, Hid (cfB ⟨n, q, r, p, kk, cc⟩ = z) := ⟨_, rfl⟩
    obtain ⟨sh, Hsh⟩ : ∃ z, Hid (shareV ⟨n, q, r, p, kk, cc⟩ who = z) := ⟨_, rfl⟩
    obtain ⟨rt, Hrt⟩ : ∃ z, Hid (rightB ⟨n, q, r, p, kk, cc⟩ l = z) := ⟨_, rfl⟩
    obtain ⟨o, Ho⟩ : ∃ z, Hid (ofV ⟨n, q, r, p, kk, cc⟩ l who = z) := ⟨_, rfl⟩
    obtain ⟨v, Hv⟩ : ∃ z, Hid (valueV ⟨n, q, r, p, kk, cc⟩ l = z) := ⟨_, rfl⟩
    have Hll := Lib.hid (newL_len ⟨n, q, r, p, kk, cc⟩)
    obtain ⟨L, HL⟩ : ∃ z, Hid (newL ⟨n, q, r, p, kk, cc⟩ = z) := ⟨_, rfl⟩
    rw [HL.out] at Hll
    obtain ⟨nl, Hnl⟩ : ∃ z, Hid (L.length = z) := ⟨_, rfl⟩
    have KP : Hid (∀ w', Below wr.heap.size wr w' → Below wr.heap.size wr w' ∧ w'.cell? ⟨W.heap.size, 0, none⟩ = some (.int .i64 n) ∧ w'.cell? ⟨W.heap.size, 1, none⟩ = some (.int .i64 q) ∧ w'.cell? ⟨W.heap.size, 2, none⟩ = some (.int .i64 r) ∧ w'.cell? ⟨W.heap.size, 3, none⟩ = some (.int .i64 p) ∧ w'.cell? ⟨W.heap.size, 4, none⟩ = some (.int .i64 kk) ∧ w'.cell? ⟨W.heap.size, 5, none⟩ = some (.int .i64 cc)) := fun w' h => ⟨h, config_cells (HW.out.later h HW.out.lt)⟩
    have O1 : Hid (∀ w', Below wr.heap.size wr w' → Calls Try.prog 11 #[cfV ⟨n, q, r, p, kk, cc⟩] w' (Says w' ok)) := by
      rw [← Hok.out]; exact fun w' _ => rMay_calls _ w'
    have O2 : Hid (∀ w', Below wr.heap.size wr w' → Calls Try.prog 12 #[cfV ⟨n, q, r, p, kk, cc⟩] w' (Says w' ok)) := by
      rw [← Hok.out]; exact fun w' _ => refcfg_calls _ w'
    have O3 : Hid (∀ w', Below wr.heap.size wr w' → Calls Try.prog 13 #[cfV ⟨n, q, r, p, kk, cc⟩, .int .i64 who] w' (Num w' sh)) := by
      rw [← Hsh.out]; exact fun w' _ => rShare_calls _ who w'
    have O4 : Hid (∀ w', Below wr.heap.size wr w' → Calls Try.prog 14 #[cfV ⟨n, q, r, p, kk, cc⟩, .int .i64 who] w' (Num w' sh)) := by
      rw [← Hsh.out]; exact fun w' _ => refshare_calls _ who w'
    have O6 : Hid (∀ w', Below wr.heap.size wr w' → Calls Try.prog 18 #[cfV ⟨n, q, r, p, kk, cc⟩, .slice a m d] w' (Says w' rt)) := by
      rw [← Hrt.out]; exact fun w' h => rRight_calls _ a m d l Hm.out w' (HAr.out.later h)
    have O7 : Hid (∀ w', Below wr.heap.size wr w' → Calls Try.prog 19 #[cfV ⟨n, q, r, p, kk, cc⟩, .slice a m d] w' (Says w' rt)) := by
      rw [← Hrt.out]; exact fun w' h => refright_calls _ a m d l Hm.out w' (HAr.out.later h)
    have O8 : Hid (∀ w', Below wr.heap.size wr w' → Calls Try.prog 20 #[cfV ⟨n, q, r, p, kk, cc⟩, .slice a m d, .int .i64 who] w' (Num w' o)) := by
      rw [← Ho.out]; exact fun w' h => rOf_calls _ a m d l who Hm.out w' (HAr.out.later h)
    have O9 : Hid (∀ w', Below wr.heap.size wr w' → Calls Try.prog 21 #[cfV ⟨n, q, r, p, kk, cc⟩, .slice a m d, .int .i64 who] w' (Num w' o)) := by
      rw [← Ho.out]; exact fun w' h => refOf_calls _ a m d l who Hm.out w' (HAr.out.later h)
    have OA : Hid (∀ w', Below wr.heap.size wr w' → Calls Try.prog 22 #[cfV ⟨n, q, r, p, kk, cc⟩, .slice a m d] w' (Num w' v)) := by
      rw [← Hv.out]; exact fun w' h => rValue_calls _ a m d l Hm.out w' (HAr.out.later h)
    have OB : Hid (∀ w', Below wr.heap.size wr w' → Calls Try.prog 23 #[cfV ⟨n, q, r, p, kk, cc⟩, .slice a m d] w' (Num w' v)) := by
      rw [← Hv.out]; exact fun w' h => refvalue_calls _ a m d l Hm.out w' (HAr.out.later h)
    have N1 : Hid (∀ w', Below wr.heap.size wr w' → Calls Try.prog 16 #[cfV ⟨n, q, r, p, kk, cc⟩] w' (fun e x => ∃ A C, e = .returned (.slice A nl C) ∧ Books x (.slice A nl C) L ∧ Below w'.heap.size w' x)) := by
      intro w' _; have h := rNew_calls ⟨n, q, r, p, kk, cc⟩ w'; rw [HL.out] at h; unfold Made at h; rw [Hnl.out] at h; exact h
    have N2 : Hid (∀ w', Below wr.heap.size wr w' → Calls Try.prog 17 #[cfV ⟨n, q, r, p, kk, cc⟩] w' (fun e x => ∃ A C, e = .returned (.slice A nl C) ∧ Books x (.slice A nl C) L ∧ Below w'.heap.size w' x)) := by
      intro w' _; refine (refnew_calls ⟨n, q, r, p, kk, cc⟩ w').mono ?_; rw [HL.out]; rintro e x ⟨A, C, rfl, hO, hb⟩; obtain ⟨A', C', hv, hBk⟩ := hO.books (by have := Hll.out.1; omega) (fun k hk => by have := Hll.out.2 k hk; omega); rw [Hnl.out] at hv hBk ⊢; simp only [Value.slice.injEq] at hv; obtain ⟨rfl, _, rfl⟩ := hv; exact ⟨_, _, rfl, hBk, hb⟩
    have NS : Hid (∀ w' A C B D, Books w' (.slice A nl C) L → Books w' (.slice B nl D) L → Calls Try.prog 15 #[.slice A nl C, .slice B nl D] w' (Says w' true)) := by
      intro w' A C B D h1 h2; have h := refsamebooks_calls A nl C B nl D L L Hnl.out.symm Hnl.out.symm w' h1 h2; rw [sameL_self] at h; exact h
    go_wp2_with fail
    go_region_held3 (fun w' => Below wr.heap.size wr w' ∧ w'.cell? ⟨W.heap.size, 0, none⟩ = some (.int .i64 n) ∧ w'.cell? ⟨W.heap.size, 1, none⟩ = some (.int .i64 q) ∧ w'.cell? ⟨W.heap.size, 2, none⟩ = some (.int .i64 r) ∧ w'.cell? ⟨W.heap.size, 3, none⟩ = some (.int .i64 p) ∧ w'.cell? ⟨W.heap.size, 4, none⟩ = some (.int .i64 kk) ∧ w'.cell? ⟨W.heap.size, 5, none⟩ = some (.int .i64 cc))
      (first | exact KP.out _ (Below.refl _ _).drew | (refine KP.out _ ?_; assumption))
      (first | (go_at_call 11; have hcur := (‹Below wr.heap.size wr _ ∧ _ ∧ _›).1; refine (O1.out _ hcur).mono ?_; rintro ee wn ⟨rfl, hb⟩; have hS := held_next hcur hb; clear hb) | (go_at_call 12; have hcur := (‹Below wr.heap.size wr _ ∧ _ ∧ _›).1; refine (O2.out _ hcur).mono ?_; rintro ee wn ⟨rfl, hb⟩; have hS := held_next hcur hb; clear hb) | (go_at_call 13; have hcur := (‹Below wr.heap.size wr _ ∧ _ ∧ _›).1; refine (O3.out _ hcur).mono ?_; rintro ee wn ⟨rfl, hb⟩; have hS := held_next hcur hb; clear hb) | (go_at_call 14; have hcur := (‹Below wr.heap.size wr _ ∧ _ ∧ _›).1; refine (O4.out _ hcur).mono ?_; rintro ee wn ⟨rfl, hb⟩; have hS := held_next hcur hb; clear hb) | (go_at_call 18; have hcur := (‹Below wr.heap.size wr _ ∧ _ ∧ _›).1; refine (O6.out _ hcur).mono ?_; rintro ee wn ⟨rfl, hb⟩; have hS := held_next hcur hb; clear hb) | (go_at_call 19; have hcur := (‹Below wr.heap.size wr _ ∧ _ ∧ _›).1; refine (O7.out _ hcur).mono ?_; rintro ee wn ⟨rfl, hb⟩; have hS := held_next hcur hb; clear hb) | (go_at_call 20; have hcur := (‹Below wr.heap.size wr _ ∧ _ ∧ _›).1; refine (O8.out _ hcur).mono ?_; rintro ee wn ⟨rfl, hb⟩; have hS := held_next hcur hb; clear hb) | (go_at_call 21; have hcur := (‹Below wr.heap.size wr _ ∧ _ ∧ _›).1; refine (O9.out _ hcur).mono ?_; rintro ee wn ⟨rfl, hb⟩; have hS := held_next hcur hb; clear hb) | (go_at_call 22; have hcur := (‹Below wr.heap.size wr _ ∧ _ ∧ _›).1; refine (OA.out _ hcur).mono ?_; rintro ee wn ⟨rfl, hb⟩; have hS := held_next hcur hb; clear hb) | (go_at_call 23; have hcur := (‹Below wr.heap.size wr _ ∧ _ ∧ _›).1; refine (OB.out _ hcur).mono ?_; rintro ee wn ⟨rfl, hb⟩; have hS := held_next hcur hb; clear hb) | (go_at_call 16; have hcur := (‹Below wr.heap.size wr _ ∧ _ ∧ _›).1; refine (N1.out _ hcur).mono ?_; rintro ee wn ⟨A1, C1, rfl, hB1, hb⟩; have hS := held_next hcur hb; have HB1 := Lib.hid hB1; clear hB1; clear hb) | (go_at_call 17; have hcur := (‹Below wr.heap.size wr _ ∧ _ ∧ _›).1; refine (N2.out _ hcur).mono ?_; rintro ee wn ⟨A2, C2, rfl, hB2, hb⟩; have hS := held_next hcur hb; have HB2 := Lib.hid hB2; clear hB2; have HB3 := Lib.hid (HB1.out.later hb); clear hb) | (go_at_call 15; have hcur := (‹Below wr.heap.size wr _ ∧ _ ∧ _›).1; refine (NS.out _ _ _ _ _ HB3.out HB2.out).mono ?_; rintro ee wn ⟨rfl, hb⟩; have hS := held_next hcur hb; clear hb))
    go_wp2_with fail
    go_ret
    exact ⟨by rfl, held_next Hb.out (‹Below wr.heap.size wr _ ∧ _ ∧ _›).1⟩
end Go.Proofs.Ytlhfggnnikmikaa
