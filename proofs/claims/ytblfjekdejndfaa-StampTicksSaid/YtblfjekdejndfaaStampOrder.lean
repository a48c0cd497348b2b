/- StampOrder, walked. -/
import Derived.Test.YtblfjekdejndfaaStampTick
import Derived.Deep.RegionHeld3
namespace Go.Proofs.Ytblfjekdejndfaa
open Go.RowKit

theorem older_not {t a u b : Int} (h : olderB t a u b = true) : olderB u b t a = false := olderB_no (by have := olderB_iff.1 h; omega)
theorem older_same {t a u b : Int} (h : olderB t a u b = false) (h2 : olderB u b t a = false) : t = u ∧ a = b := by
  have h1 : ¬ (t < u ∨ (t = u ∧ a < b)) := fun k => by rw [olderB_yes k] at h; cases h
  have h3 : ¬ (u < t ∨ (u = t ∧ b < a)) := fun k => by rw [olderB_yes k] at h2; cases h2
  omega
theorem older_trans {t a u b v c : Int} (h : olderB t a u b = true) (h2 : olderB u b v c = true) : olderB t a v c = true :=
  olderB_yes (by have := olderB_iff.1 h; have := olderB_iff.1 h2; omega)

theorem older_ne {t a u b : Int} (h : olderB t a u b = true) : ∀ w, (binOp .neq 23 (stampV t a) (stampV u b)).run Try.prog w = .ok (.bool true) w := by
  intro w
  have e : ((t == u) && (a == b)) = false := by
    cases e : ((t == u) && (a == b)) with
    | false => rfl
    | true =>
      rw [Bool.and_eq_true, beq_iff_eq, beq_iff_eq] at e
      obtain ⟨rfl, rfl⟩ := e
      have := older_not h
      rw [h] at this
      cases this
  rw [run_neq_stamp, e]; rfl
theorem older_eq {t a u b : Int} (h : olderB t a u b = false) (h2 : olderB u b t a = false) : ∀ w, (binOp .neq 23 (stampV t a) (stampV u b)).run Try.prog w = .ok (.bool false) w := by
  intro w
  obtain ⟨rfl, rfl⟩ := older_same h h2
  rw [run_neq_stamp]; simp

theorem older_ne' {t a u b : Int} (h : olderB u b t a = true) : ∀ w, (binOp .neq 23 (stampV t a) (stampV u b)).run Try.prog w = .ok (.bool true) w := by
  intro w
  have e : ((t == u) && (a == b)) = false := by
    cases e : ((t == u) && (a == b)) with
    | false => rfl
    | true =>
      rw [Bool.and_eq_true, beq_iff_eq, beq_iff_eq] at e
      obtain ⟨rfl, rfl⟩ := e
      have := older_not h
      rw [h] at this
      cases this
  rw [run_neq_stamp, e]; rfl
theorem three_ways {t a u b : Int} : (olderB t a u b = true ∧ olderB u b t a = false ∧ ∀ w, (binOp .neq 23 (stampV t a) (stampV u b)).run Try.prog w = .ok (.bool true) w) ∨
    (olderB t a u b = false ∧ olderB u b t a = true ∧ ∀ w, (binOp .neq 23 (stampV t a) (stampV u b)).run Try.prog w = .ok (.bool true) w) ∨
    (olderB t a u b = false ∧ olderB u b t a = false ∧ ∀ w, (binOp .neq 23 (stampV t a) (stampV u b)).run Try.prog w = .ok (.bool false) w) := by
  cases h1 : olderB t a u b with
  | true => exact Or.inl ⟨rfl, older_not h1, older_ne h1⟩
  | false =>
    cases h2 : olderB u b t a with
    | true => exact Or.inr (Or.inl ⟨rfl, rfl, older_ne' h2⟩)
    | false => exact Or.inr (Or.inr ⟨rfl, rfl, older_eq h1 h2⟩)

theorem bcell {W w1 : World} (hb : Below W.heap.size W w1) : (∀ b o, b < W.heap.size → w1.cell? ⟨b, o, none⟩ = W.cell? ⟨b, o, none⟩) ∧ (∀ b o, b < W.heap.size → w1.frozen? ⟨b, o, none⟩ = W.frozen? ⟨b, o, none⟩) :=
  ⟨fun b o h => hb.cell (p := ⟨b, o, none⟩) h, fun b o h => hb.frozen (p := ⟨b, o, none⟩) h⟩

set_option maxRecDepth 100000 in
set_option maxHeartbeats 2000000 in
theorem order_law (W : World) (t a u b v c n : Int) :
    Calls Try.prog 3 #[stampV t a, stampV u b, stampV v c, .int .i64 n] W (Says W true) := by
  obtain ⟨x, Hx⟩ : ∃ x, Hid (olderB t a u b = x) := ⟨_, rfl⟩
  obtain ⟨y, Hy⟩ : ∃ y, Hid (olderB u b t a = y) := ⟨_, rfl⟩
  obtain ⟨m, Hm⟩ : ∃ m, Hid (mayB t a n = m) := ⟨_, rfl⟩
  have Ox := Lib.hid (fun w => older_calls t a u b w)
  have Oy := Lib.hid (fun w => older_calls u b t a w)
  have Rx := Lib.hid (fun w => refolder_calls t a u b w)
  have Ry := Lib.hid (fun w => refolder_calls u b t a w)
  have Om := Lib.hid (fun w => may_calls t a n w)
  have Rm := Lib.hid (fun w => refmay_calls t a n w)
  rw [Hx.out] at Ox Rx
  rw [Hy.out] at Oy Ry
  rw [Hm.out] at Om Rm
  have Hb0 := Lib.hid (((below_two W (.cells #[.int .i64 t, .int .i64 a] 23) (.cells #[.int .i64 u, .int .i64 b] 23)).alloc (by simp; omega) (.cells #[.int .i64 v, .int .i64 c] 23)))
  go_enter Try.func3, Try.ntmps3
  go_wp2_with fail
  refine (awake_calls _).mono ?_
  rintro e w1 ⟨rfl, hb⟩
  have Hb1 := Lib.hid (Hb0.out.trans (hb.mono Hb0.out.size))
  have KP : Hid (∀ w, Below w1.heap.size w1 w → (Below w1.heap.size w1 w ∧ w.cell? ⟨W.heap.size, 0, none⟩ = some (.int .i64 t) ∧ w.cell? ⟨W.heap.size, 1, none⟩ = some (.int .i64 a) ∧
      w.cell? ⟨W.heap.size + 1, 0, none⟩ = some (.int .i64 u) ∧ w.cell? ⟨W.heap.size + 1, 1, none⟩ = some (.int .i64 b) ∧
      w.cell? ⟨W.heap.size + 1 + 1, 0, none⟩ = some (.int .i64 v) ∧ w.cell? ⟨W.heap.size + 1 + 1, 1, none⟩ = some (.int .i64 c))) := by
    intro w h
    have h' := (hb.trans (h.mono hb.size))
    refine ⟨h, ?_, ?_, ?_, ?_, ?_, ?_⟩ <;> (rw [h'.cell (by simp; try omega)]; simp [go_sem])
  clear hb
  go_wp2_with fail
  go_region_held (fun w => Below w1.heap.size w1 w ∧ w.cell? ⟨W.heap.size, 0, none⟩ = some (.int .i64 t) ∧ w.cell? ⟨W.heap.size, 1, none⟩ = some (.int .i64 a) ∧
      w.cell? ⟨W.heap.size + 1, 0, none⟩ = some (.int .i64 u) ∧ w.cell? ⟨W.heap.size + 1, 1, none⟩ = some (.int .i64 b) ∧
      w.cell? ⟨W.heap.size + 1 + 1, 0, none⟩ = some (.int .i64 v) ∧ w.cell? ⟨W.heap.size + 1 + 1, 1, none⟩ = some (.int .i64 c))
    (first | exact KP.out _ (Below.refl _ _).drew | (refine KP.out _ ?_; assumption))
    (first
      | (go_at_call 8; ((with_reducible refine (Ox.out _).mono ?_); rintro e wA ⟨rfl, hbA⟩; have hSA := held_next (by first | exact (Below.refl _ _).drew | assumption) hbA))
      | (go_at_call 8; ((with_reducible refine (Oy.out _).mono ?_); rintro e wB ⟨rfl, hbB⟩; have hSB := held_next (by first | exact (Below.refl _ _).drew | assumption) hbB)))
  go_wp2_with fail
  have h3 := three_ways (t := t) (a := a) (u := u) (b := b)
  rw [Hx.out, Hy.out] at h3
  have Oz := Lib.hid (fun w => older_calls u b v c w)
  have Oq := Lib.hid (fun w => older_calls t a v c w)
  rcases h3 with ⟨rfl, rfl, hne⟩ | ⟨rfl, rfl, hne⟩ | ⟨rfl, rfl, hne⟩
  all_goals
    first
    | go_region_held (fun w => Below w1.heap.size w1 w ∧ w.cell? ⟨W.heap.size, 0, none⟩ = some (.int .i64 t) ∧ w.cell? ⟨W.heap.size, 1, none⟩ = some (.int .i64 a) ∧
      w.cell? ⟨W.heap.size + 1, 0, none⟩ = some (.int .i64 u) ∧ w.cell? ⟨W.heap.size + 1, 1, none⟩ = some (.int .i64 b) ∧
      w.cell? ⟨W.heap.size + 1 + 1, 0, none⟩ = some (.int .i64 v) ∧ w.cell? ⟨W.heap.size + 1 + 1, 1, none⟩ = some (.int .i64 c))
      (first | exact KP.out _ hSB.drew | (refine KP.out _ ?_; assumption))
      (first
        | (go_at_call 9; ((with_reducible refine (Rx.out _).mono ?_); rintro e wC ⟨rfl, hbC⟩; have hSC := held_next (by first | exact hSB.drew | assumption) hbC))
        | (go_at_call 9; ((with_reducible refine (Ry.out _).mono ?_); rintro e wD ⟨rfl, hbD⟩; have hSD := held_next (by first | exact hSB.drew | assumption) hbD))
        | (go_at_call 10; ((with_reducible refine (Om.out _).mono ?_); rintro e wE ⟨rfl, hbE⟩; have hSE := held_next (by first | exact hSB.drew | assumption) hbE))
        | (go_at_call 11; ((with_reducible refine (Rm.out _).mono ?_); rintro e wF ⟨rfl, hbF⟩; have hSF := held_next (by first | exact hSB.drew | assumption) hbF)))
    | fail
    go_wp2_with fail
  · obtain ⟨z, Hz⟩ : ∃ z, Hid (olderB u b v c = z) := ⟨_, rfl⟩
    rw [Hz.out] at Oz
    have Hb2 := Lib.hid (Hb1.out.trans (hSF.mono Hb1.out.size))
    cases z with
    | false =>
      refine (Oz.out _).mono ?_
      rintro e w2 ⟨rfl, hb⟩
      have Hb3 := Lib.hid (Hb2.out.trans (hb.mono Hb2.out.size))
      go_wp2_with fail
      go_ret
      exact ⟨rfl, Hb3.out⟩
    | true =>
      have ht := older_trans Hx.out Hz.out
      rw [ht] at Oq
      refine (Oz.out _).mono ?_
      rintro e w2 ⟨rfl, hb⟩
      have Hb3 := Lib.hid (Hb2.out.trans (hb.mono Hb2.out.size))
      obtain ⟨_, k0, k1, k2, k3, k4, k5⟩ := KP.out w2 (held_next hSF hb)
      clear hb
      go_wp2_with fail
      refine (Oq.out _).mono ?_
      rintro e w3 ⟨rfl, hb⟩
      have Hb4 := Lib.hid (Hb3.out.trans (hb.mono Hb3.out.size))
      go_wp2_with fail
      go_ret
      exact ⟨rfl, Hb4.out⟩
  · have Hb2 := Lib.hid (Hb1.out.trans (hSF.mono Hb1.out.size))
    go_ret
    exact ⟨rfl, Hb2.out⟩
  · have Hb2 := Lib.hid (Hb1.out.trans (hSF.mono Hb1.out.size))
    go_ret
    exact ⟨rfl, Hb2.out⟩
end Go.Proofs.Ytblfjekdejndfaa
