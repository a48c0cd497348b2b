/- Package claim, walked: the oldest claim, who is held, who is called. No law is proved here. -/
import Derived.Test.YtbpmonbehibgdaaClaimOld
namespace Go.Proofs.Ytbpmonbehibgdaa
open Go.RowKit

theorem held_all (c : Cf) (who : Int) (l : List Nt) (t a : Int) : heldB c who l t a = ((oldestN c who l).2 && olderB (oldestN c who l).1.t (oldestN c who l).1.a t a) := by
  by_cases h : notesOk c who l
  · exact held_is h t a
  · have e : oldestN c who l = (⟨0, 0, 0⟩, false) := if_neg h
    rw [e]
    exact decide_eq_false fun h2 => h h2.1
set_option maxRecDepth 100000 in
set_option maxHeartbeats 8000000 in
theorem cOldest_calls (c : Cf) (who : Int) (a : Option Addr) (m cp : Nat) (l : List Nt) (hm : m = l.length) (hs : m ≤ 1000) (w : World) (hB : Notes w (.slice a m cp) l) :
    Calls Try.prog 15 #[cfV c, .int .i64 who, .slice a m cp] w (TellsQ w (oldestN c who l)) := by
  have hmf : ∀ (fn : Fn) (first cap : Array Value) (w : World), (Instr.makeFunc fn first cap).run Try.prog w = .ok (.func fn first cap) w := fun _ _ _ _ => rfl
  have HW := Lib.hid ((Whole.made w 23 (cfCells c)).alloc (.cells (rqCells ⟨0, 0, 0⟩) 29))
  have HR := Lib.hid (Whole.made2 w (.cells (cfCells c) 23) 29 (rqCells ⟨0, 0, 0⟩))
  have Hb0 := Lib.hid (below_two w (.cells (cfCells c) 23) (.cells (rqCells ⟨0, 0, 0⟩) 29))
  have HB := Lib.hid hB; clear hB
  have Hm := Lib.hid hm
  have HC := Lib.hid (fun w hw => cMay_calls c who a m cp l hm hs w hw)
  clear hm
  obtain ⟨ok, Hok⟩ : ∃ z, Hid (notesB c who l = z) := ⟨_, rfl⟩
  obtain ⟨res, Hres⟩ : ∃ z, Hid (oldestN c who l = z) := ⟨_, rfl⟩
  rw [Hres.out]
  obtain ⟨n, q, r, p, kk, cc⟩ := c
  go_enter Try.func15, Try.ntmps15
  go_wp2_with fail
  refine (HC.out _ (HB.out.later Hb0.out)).mono ?_
  rw [Hok.out]
  rintro e w1 ⟨rfl, hb⟩
  have HW1 := Lib.hid (HW.out.later hb HW.out.lt)
  have HR1 := Lib.hid (HR.out.later hb HR.out.lt)
  have Hb1 := Lib.hid (held_next Hb0.out hb)
  clear hb HW HR Hb0 HC
  have y0 := HR1.out.free 0; have y1 := HR1.out.free 1; have y2 := HR1.out.free 2
  have hlt := HR1.out.lt
  cases ok with
  | false =>
    obtain rfl : res = (⟨0, 0, 0⟩, false) := Hres.out.symm.trans (if_neg (of_decide_eq_false Hok.out))
    obtain ⟨f0, f1, f2⟩ := rq_cells HR1.out
    simp only at f0 f1 f2
    go_wp2_with fail
    have hL := rq_set3 HR1.out 0 0 0
    obtain ⟨k0, k1, k2⟩ := rq_cells hL
    simp only at k0 k1 k2
    refine bodyPost_ret (v := .tuple #[rqV ⟨0, 0, 0⟩, .bool false]) (by simp [results, Try.results15, go_sem, k0, k1, k2]) rfl ⟨rfl, ?_⟩
    exact ((Hb1.out.setCell (p := ⟨w.heap.size + 1, 0, none⟩) (Nat.le_succ _) _).setCell (p := ⟨w.heap.size + 1, 1, none⟩) (Nat.le_succ _) _).setCell (p := ⟨w.heap.size + 1, 2, none⟩) (Nat.le_succ _) _
  | true =>
  have Hno := Lib.hid (of_decide_eq_true Hok.out)
  have HG := Lib.hid (Whole.made w1 29 (rqCells ⟨0, 0, 0⟩))
  have Hbg := Lib.hid (below_box w1 (.cells (rqCells ⟨0, 0, 0⟩) 29))
  clear y0 y1 y2
  go_wp2_with fail
  obtain ⟨g, Hg⟩ : ∃ g, Hid (w1.heap.size = g) := ⟨_, rfl⟩
  rw [Hg.out] at HG Hbg hlt ⊢
  go_loopw [21] (fun s21 wr => ∃ (k : Nat) (o : Rq), k ≤ m ∧ s21 = .int .i64 k ∧ Hid (oldR ⟨n, q, r, p, kk, cc⟩ l k = o) ∧ Hid (Whole wr g 29 (rqCells o)) ∧ Hid (Below g w1 wr)) (fun s21 _ => m - (intOf s21).toNat)
  case atStart => exact ⟨0, ⟨0, 0, 0⟩, Nat.zero_le _, rfl, rfl, HG.out, Hbg.out⟩
  case round =>
    obtain ⟨k, o, hk, rfl, Ho, HGr, Hb⟩ := hrel
    have hgl := HGr.out.lt
    have Hbo := Lib.hid (held_next Hb1.out (by rw [Hg.out]; exact Hb.out))
    have HWr := Lib.hid (HW1.out.later Hb.out (Nat.lt_of_succ_lt hlt))
    have HRr := Lib.hid (HR1.out.later Hb.out hlt)
    obtain ⟨d0, d1, d2, d3, d4, d5⟩ := config_cells HWr.out
    simp only at d0 d1 d2 d3 d4 d5
    by_cases hkm : k < m
    · obtain ⟨b, off, rfl, hN⟩ := HB.out.at (i := k) (by have := Hm.out; omega)
      obtain ⟨x, Hx⟩ : ∃ z, Hid (ntAt l k = z) := ⟨_, rfl⟩
      rw [Hx.out] at hN
      obtain ⟨e0, e1, e2, e3, e4, e5, e6⟩ := NtIn.later hN Hbo.out
      clear hN
      obtain ⟨v, Hv⟩ : ∃ z, Hid (onB ⟨n, q, r, p, kk, cc⟩ x = z) := ⟨_, rfl⟩
      have hbx := below_box wr (.cells (ntCells x) 47)
      have HX := Lib.hid (Whole.made wr 47 (ntCells x))
      have HGx := Lib.hid (HGr.out.later hbx hgl)
      have Hbx := Lib.hid (Hb.out.trans (hbx.mono (Nat.le_of_lt hgl)))
      have hwl := HWr.out.lt
      clear hbx
      obtain ⟨x0, x1, x2, x3, x4, x5, x6⟩ := x
      simp only at e0 e1 e2 e3 e4 e5 e6
      have k0 : (0 : Int) ≤ (k : Int) := by omega
      have k1 : (k : Int) < (m : Int) := by omega
      go_wp2_with fail
      refine (cOn_calls ⟨n, q, r, p, kk, cc⟩ ⟨x0, x1, x2, x3, x4, x5, x6⟩ _).mono ?_
      rw [Hv.out]
      rintro e w3 ⟨rfl, hb⟩
      have HX3 := Lib.hid (HX.out.later hb HX.out.lt)
      have HG3 := Lib.hid (HGx.out.later hb HGx.out.lt)
      have Hb3 := Lib.hid (Hbx.out.trans (hb.mono (Nat.le_of_lt HGx.out.lt)))
      clear hb e0 e1 e2 e3 e4 e5 e6 d0 d1 d2 d3 d4 d5 HX HGx Hbx
      obtain ⟨e0, e1, e2, e3, e4, e5, e6⟩ := nt_cells HX3.out
      simp only at e0 e1 e2 e3 e4 e5 e6
      cases v with
      | false =>
        go_wp2_with fail
        go_roundw
        case rel => exact ⟨k + 1, o, by omega, by go_num, (oldR_off (by rw [Hx.out]; exact Hv.out)).trans Ho.out, HG3.out, Hb3.out⟩
        case measure => simp [intOf]; omega
      | true =>
        go_wp2_with fail
        refine (keep_calls g o ⟨x1, x2, x3⟩ w3 HG3.out).mono ?_
        rintro e w4 ⟨rfl, hb, hw⟩
        have HG4 := Lib.hid hw
        have Hb4 := Lib.hid (Hb3.out.trans hb)
        clear hb hw
        go_wp2_with fail
        go_roundw
        case rel => exact ⟨k + 1, keepR o ⟨x1, x2, x3⟩, by omega, by go_num, (oldR_on (by rw [Hx.out]; exact Hv.out)).trans (by rw [Ho.out, Hx.out]; rfl), HG4.out, Hb4.out⟩
        case measure => simp [intOf]; omega
    · obtain rfl : k = m := by omega
      obtain ⟨z, Hz⟩ : ∃ z, Hid (noRq o = z) := ⟨_, rfl⟩
      obtain rfl : res = (o, !z) := Hres.out.symm.trans ((oldestN_R Hno.out).trans (by rw [← Hm.out, Ho.out, Hz.out]))
      have hgo : Hid (g ≠ w.heap.size + 1) := by show g ≠ w.heap.size + 1; omega
      obtain ⟨o0, o1, o2⟩ := o
      have y0 := HRr.out.free 0; have y1 := HRr.out.free 1; have y2 := HRr.out.free 2
      obtain ⟨f0, f1, f2⟩ := rq_cells HGr.out
      obtain ⟨h0, h1, h2⟩ := rq_cells HRr.out
      simp only at f0 f1 f2 h0 h1 h2
      have hrl := HRr.out.lt
      have hnone := none_calls o0 o1 o2 wr.drew
      rw [show decide (o0 = 0 ∧ o1 = 0 ∧ o2 = 0) = z from Hz.out] at hnone
      have OC := Lib.hid hnone; clear hnone
      go_wp2_with fail
      go_region_held3 (fun w' => w'.cell? ⟨g, 0, none⟩ = some (.int .i64 o0) ∧ w'.cell? ⟨g, 1, none⟩ = some (.int .i64 o1) ∧ w'.cell? ⟨g, 2, none⟩ = some (.int .i64 o2))
        (first | exact rq_cells HGr.out.drew | exact rq_cells HG5.out | exact rq_cells (((HG5.out.other hgo.out _).other hgo.out _).other hgo.out _))
        (first | (go_at_call 33; refine (OC.out).mono ?_; rintro e w5 ⟨rfl, hb0⟩; have hb : Below wr.heap.size wr w5 := (Below.refl _ _).drew.trans hb0; clear hb0; have HG5 := Lib.hid (HGr.out.later hb HGr.out.lt); have HR5 := Lib.hid (HRr.out.later hb HRr.out.lt); have Hb5 := Lib.hid (held_next Hbo.out hb); have y5 := HR5.out.free 0; have y6 := HR5.out.free 1; have y7 := HR5.out.free 2; obtain ⟨q0, q1, q2⟩ := rq_cells HR5.out; simp only at q0 q1 q2; clear hb))
      all_goals go_wp2_with fail
      all_goals (have hL := rq_set3 HR5.out o0 o1 o2; obtain ⟨k0, k1, k2⟩ := rq_cells hL; simp only at k0 k1 k2; refine bodyPost_ret (v := .tuple #[rqV ⟨o0, o1, o2⟩, .bool (!z)]) (by simp [results, Try.results15, go_sem, k0, k1, k2]) rfl ⟨rfl, ?_⟩; exact ((Hb5.out.setCell (p := ⟨w.heap.size + 1, 0, none⟩) (Nat.le_succ _) _).setCell (p := ⟨w.heap.size + 1, 1, none⟩) (Nat.le_succ _) _).setCell (p := ⟨w.heap.size + 1, 2, none⟩) (Nat.le_succ _) _)
set_option maxRecDepth 100000 in
set_option maxHeartbeats 8000000 in
theorem cHeld_calls (c : Cf) (who : Int) (a : Option Addr) (m cp : Nat) (l : List Nt) (t u : Int) (hm : m = l.length) (hs : m ≤ 1000) (w : World) (hB : Notes w (.slice a m cp) l) :
    Calls Try.prog 16 #[cfV c, .int .i64 who, .slice a m cp, stampV t u] w (Says w (heldB c who l t u)) := by
  have Hb0 := Lib.hid (below_two w (.cells (cfCells c) 23) (.cells #[.int .i64 t, .int .i64 u] 27))
  have HT := Lib.hid (Whole.made2 w (.cells (cfCells c) 23) 27 #[.int .i64 t, .int .i64 u])
  have HC := Lib.hid (fun w hw => cOldest_calls c who a m cp l hm hs w hw)
  have HB := Lib.hid hB; clear hB hm
  obtain ⟨⟨⟨x0, x1, x2⟩, ok⟩, Ho⟩ : ∃ z, Hid (oldestN c who l = z) := ⟨_, rfl⟩
  have hres := held_all c who l t u
  rw [Ho.out] at hres
  simp only at hres
  obtain ⟨z, Hz⟩ : ∃ z, Hid (olderB x0 x1 t u = z) := ⟨_, rfl⟩
  rw [Hz.out] at hres
  rw [hres]
  clear hres
  obtain ⟨n, q, r, p, kk, cc⟩ := c
  go_enter Try.func16, Try.ntmps16
  go_wp2_with fail
  refine (HC.out _ (HB.out.later Hb0.out)).mono ?_
  rw [Ho.out]
  rintro e w1 ⟨rfl, hb⟩
  have hbx := below_box w1 (.cells (rqCells ⟨x0, x1, x2⟩) 29)
  have HT1 := Lib.hid ((HT.out.later hb HT.out.lt).later hbx (HT.out.later hb HT.out.lt).lt)
  have Hb1 := Lib.hid (held_next (held_next Hb0.out hb) hbx)
  have hl1 := (HT.out.later hb HT.out.lt).lt
  have e0 := (HT.out.later hb HT.out.lt).cell 0
  have e1 := (HT.out.later hb HT.out.lt).cell 1
  simp at e0 e1
  clear hb hbx
  cases ok with
  | false =>
    go_wp2_with fail
    go_ret
    exact ⟨by rfl, Hb1.out⟩
  | true =>
  go_wp2_with fail
  refine (older_calls x0 x1 t u _).mono ?_
  rw [Hz.out]
  rintro e w2 ⟨rfl, hb⟩
  have Hb2 := Lib.hid (held_next Hb1.out hb)
  clear hb
  go_wp2_with fail
  go_ret
  exact ⟨by rfl, Hb2.out⟩
set_option maxRecDepth 100000 in
set_option maxHeartbeats 8000000 in
theorem cCalls_calls (c : Cf) (who : Int) (a : Option Addr) (m cp : Nat) (l : List Nt) (h : Rq) (hm : m = l.length) (hs : m ≤ 1000) (w : World) (hB : Notes w (.slice a m cp) l) :
    Calls Try.prog 18 #[cfV c, .int .i64 who, .slice a m cp, rqV h] w (TellsI w (callsN c who l h)) := by
  have Hb0 := Lib.hid (below_two w (.cells (cfCells c) 23) (.cells (rqCells h) 29))
  have HH := Lib.hid (Whole.made2 w (.cells (cfCells c) 23) 29 (rqCells h))
  have HC := Lib.hid (fun w hw => cOldest_calls c who a m cp l hm hs w hw)
  have HB := Lib.hid hB; clear hB hm
  obtain ⟨⟨⟨x0, x1, x2⟩, ok⟩, Ho⟩ : ∃ z, Hid (oldestN c who l = z) := ⟨_, rfl⟩
  obtain ⟨res, Hres⟩ : ∃ z, Hid (callsN c who l h = z) := ⟨_, rfl⟩
  have hres := Hres.out
  unfold callsN at hres
  rw [Ho.out] at hres
  rw [Hres.out]
  clear Hres
  obtain ⟨t, u, v⟩ := h
  obtain ⟨z, Hz⟩ : ∃ z, Hid (olderB t u x0 x1 = z) := ⟨_, rfl⟩
  simp only [Hz.out] at hres
  have Hr := Lib.hid hres; clear hres
  obtain ⟨n, q, r, p, kk, cc⟩ := c
  go_enter Try.func18, Try.ntmps18
  go_wp2_with fail
  refine (HC.out _ (HB.out.later Hb0.out)).mono ?_
  rw [Ho.out]
  rintro e w1 ⟨rfl, hb⟩
  have hbx := below_box w1 (.cells (rqCells ⟨x0, x1, x2⟩) 29)
  have HX1 := Lib.hid (Whole.made w1 29 (rqCells ⟨x0, x1, x2⟩))
  have Hb1 := Lib.hid (held_next (held_next Hb0.out hb) hbx)
  have hl1 := (HH.out.later hb HH.out.lt).lt
  obtain ⟨e0, e1, e2⟩ := rq_cells (HH.out.later hb HH.out.lt)
  simp only at e0 e1 e2
  clear hb hbx
  cases ok with
  | false =>
    obtain rfl : res = (0, false) := Hr.out.symm.trans (if_neg fun h => by cases h.1)
    go_wp2_with fail
    go_ret2
    exact ⟨by rfl, Hb1.out⟩
  | true =>
  by_cases hv : v = 0
  · subst hv
    obtain rfl : res = (x1, true) := Hr.out.symm.trans (if_pos ⟨rfl, fun h => h.1 rfl⟩)
    go_wp2_with fail
    go_ret2
    exact ⟨by rfl, Hb1.out⟩
  have hv' : (v != 0) = true := bne_iff_ne.2 hv
  have Hv := Lib.hid hv; clear hv
  go_wp2_with fail
  refine (older_calls t u x0 x1 _).mono ?_
  rw [Hz.out]
  rintro e w2 ⟨rfl, hb⟩
  have Hb2 := Lib.hid (held_next Hb1.out hb)
  have HX2 := Lib.hid (HX1.out.later hb HX1.out.lt)
  obtain ⟨f0, f1, f2⟩ := rq_cells HX2.out
  simp only at f0 f1 f2
  clear hb
  cases z with
  | true =>
    obtain rfl : res = (0, false) := Hr.out.symm.trans (if_neg fun h => h.2 ⟨Hv.out, by trivial⟩)
    go_wp2_with fail
    go_ret2
    exact ⟨by rfl, Hb2.out⟩
  | false =>
    obtain rfl : res = (x1, true) := Hr.out.symm.trans (if_pos ⟨by trivial, fun h => by cases h.2⟩)
    go_wp2_with fail
    go_ret2
    exact ⟨by rfl, Hb2.out⟩
end Go.Proofs.Ytbpmonbehibgdaa
