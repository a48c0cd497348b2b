/- Package claim, walked: does a note tell a claim, and the oldest one. No law is proved here. -/
import Derived.Test.YtbpmonbehibgdaaClaimMay
import Derived.Test.YtbpmonbehibgdaaClaimMath
import Derived.Test.YtbpmonbehibgdaaRefClaimNote
import Derived.Laws.EntriesVeiled
import Derived.Deep.RegionHeld3
namespace Go.Proofs.Ytbpmonbehibgdaa
open Go.RowKit

set_option maxRecDepth 100000 in
set_option maxHeartbeats 8000000 in
theorem cOn_calls (c : Cf) (x : Nt) (w : World) : Calls Try.prog 19 #[cfV c, ntV x] w (Says w (onB c x)) := by
  have HK : Hid (KeptN w w.heap.size c x ((w.alloc (.cells (cfCells c) 23)).alloc (.cells (ntCells x) 47))) := ⟨below_two w _ _, (Whole.made w _ _).alloc _, Whole.made2 w _ _ _⟩
  obtain ⟨n, q, r, p, kk, cc⟩ := c
  obtain ⟨clk, t, a, m, asks, try_, ph⟩ := x
  obtain ⟨ok, Hok⟩ : ∃ z, Hid (cfB ⟨n, q, r, p, kk, cc⟩ = z) := ⟨_, rfl⟩
  obtain ⟨res, Hres⟩ : ∃ z, Hid (onB ⟨n, q, r, p, kk, cc⟩ ⟨clk, t, a, m, asks, try_, ph⟩ = z) := ⟨_, rfl⟩
  have no : ¬ (cfOk ⟨n, q, r, p, kk, cc⟩ ∧ 0 < m ∧ r ≤ asks) → res = false := fun h => Hres.out.symm.trans (decide_eq_false h)
  have No := Lib.hid no; clear no
  rw [Hres.out]
  go_enter Try.func19, Try.ntmps19
  go_wp2_with fail
  refine (rMay_calls ⟨n, q, r, p, kk, cc⟩ _).mono ?_
  rintro e w1 ⟨rfl, hb⟩
  rw [Hok.out]
  have HK1 := Lib.hid (HK.out.later hb)
  clear hb HK
  obtain ⟨d0, d1, d2, d3, d4, d5⟩ := config_cells HK1.out.2.1
  obtain ⟨e0, e1, e2, e3, e4, e5, e6⟩ := nt_cells HK1.out.2.2
  simp only at d0 d1 d2 d3 d4 d5 e0 e1 e2 e3 e4 e5 e6
  cases ok with
  | false =>
    obtain rfl : res = false := No.out fun h => by
      have := cfB_yes h.1
      rw [Hok.out] at this
      cases this
    go_wp2_with fail
    go_ret
    exact ⟨by rfl, HK1.out.1⟩
  | true =>
  by_cases h1 : 0 < m
  · by_cases h2 : r ≤ asks
    · obtain rfl : res = true := Hres.out.symm.trans (decide_eq_true ⟨cfB_ok Hok.out, h1, h2⟩)
      go_wp2_with fail
      go_ret
      exact ⟨by first | rfl | (simp; done) | (simp; omega), HK1.out.1⟩
    · obtain rfl : res = false := No.out fun h => h2 h.2.2
      go_wp2_with fail
      go_ret
      exact ⟨by first | rfl | (simp; done) | (simp; omega), HK1.out.1⟩
  · obtain rfl : res = false := No.out fun h => h1 h.2.1
    go_wp2_with fail
    go_ret
    exact ⟨by first | rfl | (simp; done) | (simp; omega), HK1.out.1⟩

/-- is it no request? -/
def noRq (x : Rq) : Bool := decide (x.t = 0 ∧ x.a = 0 ∧ x.m = 0)
/-- the older one of two, where the first may be none -/
def keepR (o x : Rq) : Rq := if noRq o = true ∨ olderB x.t x.a o.t o.a = true then x else o
/-- the oldest claim of the first k notes, or none -/
def oldR (c : Cf) (l : List Nt) (k : Nat) : Rq := match oldK c l k with
  | some j => headOf (ntAt l j)
  | none => ⟨0, 0, 0⟩
theorem oldK_on {c : Cf} {l : List Nt} : ∀ k j, oldK c l k = some j → onB c (ntAt l j) = true
  | 0, j, h => by cases h
  | k + 1, j, h => by
    unfold oldK at h
    cases ho : onB c (ntAt l k) with
    | false => rw [ho] at h; simp only [Bool.false_eq_true, if_false] at h; exact oldK_on k j h
    | true =>
      rw [ho] at h
      simp only [if_true] at h
      cases hj : oldK c l k with
      | none => rw [hj] at h; cases h; exact ho
      | some i =>
        rw [hj] at h
        simp only at h
        split at h
        · cases h; exact ho
        · cases h; exact oldK_on k _ hj
theorem head_some {c : Cf} {x : Nt} (h : onB c x = true) : noRq (headOf x) = false := by
  have h1 : 0 < x.m := (of_decide_eq_true h).2.1
  exact decide_eq_false fun h2 => by have : x.m = 0 := h2.2.2; omega
theorem oldR_off {c : Cf} {l : List Nt} {k : Nat} (h : onB c (ntAt l k) = false) : oldR c l (k + 1) = oldR c l k := by
  have e : oldK c l (k + 1) = oldK c l k := by simp [oldK, h]
  unfold oldR
  rw [e]
theorem oldR_on {c : Cf} {l : List Nt} {k : Nat} (h : onB c (ntAt l k) = true) : oldR c l (k + 1) = keepR (oldR c l k) (headOf (ntAt l k)) := by
  unfold oldR
  cases hj : oldK c l k with
  | none =>
    have e : oldK c l (k + 1) = some k := by simp [oldK, h, hj]
    rw [e]
    exact (if_pos (Or.inl rfl)).symm
  | some i =>
    have hn := head_some (oldK_on k i hj)
    have e : oldK c l (k + 1) = if olderB (ntAt l k).t (ntAt l k).a (ntAt l i).t (ntAt l i).a then some k else some i := by simp [oldK, h, hj]
    rw [e]
    simp only
    cases ho : olderB (ntAt l k).t (ntAt l k).a (ntAt l i).t (ntAt l i).a with
    | true =>
      simp only [if_true]
      exact (if_pos (Or.inr ho)).symm
    | false =>
      simp only [Bool.false_eq_true, if_false]
      refine (if_neg fun h => ?_).symm
      rcases h with h | h
      · rw [hn] at h; cases h
      · have h9 : olderB (ntAt l k).t (ntAt l k).a (ntAt l i).t (ntAt l i).a = true := h
        rw [ho] at h9; cases h9
theorem oldestN_R {c : Cf} {who : Int} {l : List Nt} (h : notesOk c who l) : oldestN c who l = (oldR c l l.length, !noRq (oldR c l l.length)) := by
  unfold oldestN oldR
  rw [if_pos h]
  cases hj : oldK c l l.length with
  | none => rfl
  | some i =>
    have hn := head_some (oldK_on _ i hj)
    simp only
    rw [hn]; rfl
/-- what the closure leaves: the box as it should be, all below it as it was -/
def KeptR (g : Nat) (o : Rq) (w : World) (e : Ending) (w' : World) : Prop := e = .returned (.tuple #[]) ∧ Below g w w' ∧ Whole w' g 29 (rqCells o)
theorem rq_set3 {w : World} {g : Nat} {o : Rq} (h : Whole w g 29 (rqCells o)) (t a m : Int) : Whole (((w.setCell ⟨g, 0, none⟩ (.int .i64 t)).setCell ⟨g, 1, none⟩ (.int .i64 a)).setCell ⟨g, 2, none⟩ (.int .i64 m)) g 29 (rqCells ⟨t, a, m⟩) := by
  have h9 := ((h.set 0 (.int .i64 t)).set 1 (.int .i64 a)).set 2 (.int .i64 m)
  simpa using h9
theorem below_set3 {w0 w : World} {g : Nat} (h : Below g w0 w) (x y z : Value) : Below g w0 (((w.setCell ⟨g, 0, none⟩ x).setCell ⟨g, 1, none⟩ y).setCell ⟨g, 2, none⟩ z) :=
  ((h.setCell (p := ⟨g, 0, none⟩) (Nat.le_refl _) x).setCell (p := ⟨g, 1, none⟩) (Nat.le_refl _) y).setCell (p := ⟨g, 2, none⟩) (Nat.le_refl _) z
set_option maxRecDepth 100000 in
set_option maxHeartbeats 8000000 in
theorem keep_calls (g : Nat) (o x : Rq) (w : World) (hW : Whole w g 29 (rqCells o)) : Calls Try.prog 32 #[rqV x, .pointer (some ⟨g, 0, none⟩)] w (KeptR g (keepR o x) w) := by
  have hg := hW.lt
  have hb0 := below_box w (.cells (rqCells x) 29)
  have HW := Lib.hid (hW.later hb0 hg)
  have HX := Lib.hid (Whole.made w 29 (rqCells x))
  have Hb0 := Lib.hid hb0
  clear hb0 hW
  obtain ⟨t, a, m⟩ := x
  obtain ⟨u, b, n⟩ := o
  obtain ⟨res, Hres⟩ : ∃ z, Hid (keepR ⟨u, b, n⟩ ⟨t, a, m⟩ = z) := ⟨_, rfl⟩
  rw [Hres.out]
  obtain ⟨z0, Hz0⟩ : ∃ z, Hid (decide (u = 0 ∧ b = 0 ∧ n = 0) = z) := ⟨_, rfl⟩
  obtain ⟨z1, Hz1⟩ : ∃ z, Hid (olderB t a u b = z) := ⟨_, rfl⟩
  obtain ⟨f0, f1, f2⟩ := rq_cells HW.out
  obtain ⟨e0, e1, e2⟩ := rq_cells HX.out
  simp only at f0 f1 f2 e0 e1 e2
  go_enter Try.func32, Try.ntmps32
  go_wp2_with fail
  refine (none_calls u b n _).mono ?_
  rw [Hz0.out]
  rintro e w1 ⟨rfl, hb⟩
  have HW1 := Lib.hid (HW.out.later hb HW.out.lt)
  have HX1 := Lib.hid (HX.out.later hb HX.out.lt)
  have Hb1 := Lib.hid (held_next Hb0.out hb)
  clear hb f0 f1 f2 e0 e1 e2 HW HX Hb0
  obtain ⟨f0, f1, f2⟩ := rq_cells HW1.out
  have y0 := HW1.out.free 0; have y1 := HW1.out.free 1; have y2 := HW1.out.free 2
  obtain ⟨e0, e1, e2⟩ := rq_cells HX1.out
  simp only at f0 f1 f2 e0 e1 e2
  cases z0 with
  | true =>
    obtain rfl : res = ⟨t, a, m⟩ := Hres.out.symm.trans (if_pos (Or.inl Hz0.out))
    go_wp2_with fail
    exact bodyPost_end (v := .tuple #[]) (by simp [results, Try.results32, go_sem]) rfl ⟨rfl, below_set3 (Hb1.out.mono (Nat.le_of_lt hg)) _ _ _, rq_set3 HW1.out t a m⟩
  | false =>
  go_wp2_with fail
  refine (older_calls t a u b _).mono ?_
  rw [Hz1.out]
  rintro e w2 ⟨rfl, hb⟩
  have HW2 := Lib.hid (HW1.out.later hb HW1.out.lt)
  have HX2 := Lib.hid (HX1.out.later hb HX1.out.lt)
  have Hb2 := Lib.hid (held_next Hb1.out hb)
  clear hb f0 f1 f2 e0 e1 e2 HW1 HX1 Hb1 y0 y1 y2
  obtain ⟨f0, f1, f2⟩ := rq_cells HW2.out
  have y0 := HW2.out.free 0; have y1 := HW2.out.free 1; have y2 := HW2.out.free 2
  obtain ⟨e0, e1, e2⟩ := rq_cells HX2.out
  simp only at f0 f1 f2 e0 e1 e2
  cases z1 with
  | true =>
    obtain rfl : res = ⟨t, a, m⟩ := Hres.out.symm.trans (if_pos (Or.inr Hz1.out))
    go_wp2_with fail
    exact bodyPost_end (v := .tuple #[]) (by simp [results, Try.results32, go_sem]) rfl ⟨rfl, below_set3 (Hb2.out.mono (Nat.le_of_lt hg)) _ _ _, rq_set3 HW2.out t a m⟩
  | false =>
    obtain rfl : res = ⟨u, b, n⟩ := Hres.out.symm.trans (if_neg fun h => by
      rcases h with h | h
      · have h9 := h.symm.trans Hz0.out
        cases h9
      · have h9 := h.symm.trans Hz1.out
        cases h9)
    go_wp2_with fail
    exact bodyPost_end (v := .tuple #[]) (by simp [results, Try.results32, go_sem]) rfl ⟨rfl, Hb2.out.mono (Nat.le_of_lt hg), HW2.out⟩
end Go.Proofs.Ytbpmonbehibgdaa
