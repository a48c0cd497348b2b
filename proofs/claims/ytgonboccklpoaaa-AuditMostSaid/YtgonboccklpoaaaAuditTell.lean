/- Package audit, walked: an audit is told by a message. No law is proved here. -/
import Derived.Test.YtgonboccklpoaaaAuditMay
import Derived.Test.YtgonboccklpoaaaAuditNext
import Derived.Test.YtgonboccklpoaaaAuditCopied
import Derived.Test.YtgonboccklpoaaaAuditOut
import Derived.Test.YtgonboccklpoaaaClaimMail
import Derived.Test.YtgonboccklpoaaaEach
import Derived.Deep.QuietTactic
import Derived.BigQuiet
import Derived.BigRegion
namespace Go.Proofs.Ytgonboccklpoaaa
open Go.RowKit

theorem mail_shape {c : Cf} {m : Ml} (h : mailOk c m) : rightOk c m.rows ∧ (0 ≤ m.fr ∧ m.fr < c.n) ∧ (m.echo.length : Int) = c.n := ⟨h.1, h.2.1, h.2.2.2.2.2.1⟩
set_option maxRecDepth 100000 in
set_option maxHeartbeats 16000000 in
theorem aTellO_calls (c : Cf) (who : Int) (x : Au) (p : Al) (ml : Ml) (ra : Option Addr) (rm rcp : Nat) (ea : Option Addr) (em ecp : Nat) (w : World) (hA : AuIn w p x) (hM : MailIn w ra rm rcp ea em ecp ml) :
    Calls Try.prog 12 #[cfV c, .int .i64 who, auAt x p, mlV ml (.slice ra rm rcp) (.slice ea em ecp)] w (GaveAO w (fun g => OffAl g p) (tellA c who x ml)) := by
  have HK : Hid (KeptT w c x p ml (.slice ra rm rcp) (.slice ea em ecp) ((((w.alloc (.cells (cfCells c) 23)).alloc (.cells (auCells x (.slice p.a1 p.m1 p.c1) (.slice p.a2 p.m2 p.c2) (.slice p.a3 p.m3 p.c3)) 33)).alloc (.cells (mlCells ml (.slice ra rm rcp) (.slice ea em ecp)) 40)).alloc (.cells (auCells au0 (.slice none 0 0) (.slice none 0 0) (.slice none 0 0)) 33))) := keptT_made w c x p ml _ _
  have HC1 := Lib.hid (fun w hA => aMay_calls c who x p w hA)
  have HC2 := Lib.hid (fun w hM => cMayMail_calls c ml ra rm rcp ea em ecp w hM)
  have HC3 := Lib.hid (fun hs w hA => aucopied_calls x p hs w hA)
  have hbig : p.m1 ≤ 9223372036854775807 ∧ p.m2 ≤ 9223372036854775807 ∧ p.m3 ≤ 9223372036854775807 := ⟨by rw [hA.1.1]; exact hA.1.2.1, by rw [hA.2.1.1]; exact hA.2.1.2.1, by rw [hA.2.2.1]; exact hA.2.2.2.1⟩
  have HC5 := Lib.hid (fun w => aunone_calls x p w hA.1.1 hA.2.1.1 hA.2.2.1 hbig)
  have hlen : auOk c who x → p.m1 ≤ 100000 ∧ p.m2 ≤ 100000 ∧ p.m3 ≤ 100000 := fun h => by
    have := au_small h
    have h1 := hA.1.1
    have h2 := hA.2.1.1
    have h3 := hA.2.2.1
    omega
  have Hlen := Lib.hid hlen; clear hlen hbig
  have HA := Lib.hid hA; clear hA
  have HM := Lib.hid hM; clear hM
  obtain ⟨a1, m1, k1, a2, m2, k2, a3, m3, k3⟩ := p
  obtain ⟨n, q, r, p, kk, cc⟩ := c
  obtain ⟨tr, ph, told, use, inc, moved⟩ := x
  obtain ⟨fr, tg, clk, rows, mt, ma, mv, asks, try_, mph, echo⟩ := ml
  obtain ⟨res, Hres⟩ : ∃ z, Hid (tellA ⟨n, q, r, p, kk, cc⟩ who ⟨tr, ph, told, use, inc, moved⟩ ⟨fr, tg, clk, rows, mt, ma, mv, asks, try_, mph, echo⟩ = z) := ⟨_, Lib.hid rfl⟩
  rw [Hres.out]
  obtain ⟨ok, Hok⟩ : ∃ z, Hid (auB ⟨n, q, r, p, kk, cc⟩ who ⟨tr, ph, told, use, inc, moved⟩ = z) := ⟨_, Lib.hid rfl⟩
  obtain ⟨ok2, Hok2⟩ : ∃ z, Hid (mailB ⟨n, q, r, p, kk, cc⟩ ⟨fr, tg, clk, rows, mt, ma, mv, asks, try_, mph, echo⟩ = z) := ⟨_, Lib.hid rfl⟩
  have no : ¬ (ok = true ∧ ok2 = true ∧ tg = who) → res = (au0, 1) := fun h => Hres.out.symm.trans (if_neg fun h2 => h ⟨Hok.out.symm.trans (decide_eq_true h2.1), Hok2.out.symm.trans (decide_eq_true h2.2.1), h2.2.2⟩)
  have No := Lib.hid no; clear no
  have hend : ∀ W0 W, W = au6 W0 (w.heap.size + 1 + 1 + 1) au0 ⟨none, 0, 0, none, 0, 0, none, 0, 0⟩ → Below w.heap.size w W0 → Below w.heap.size w W := fun W0 W e h => by rw [e]; exact au6_below h (by omega)
  have Hend := Lib.hid hend; clear hend
  go_enter Try.func12, Try.ntmps12
  obtain ⟨d0, d1, d2, d3, d4, d5⟩ := config_cells HK.out.1.2.1
  simp only at d0 d1 d2 d3 d4 d5
  obtain ⟨e0, e1, e2, e3, e4, e5⟩ := au_cells HK.out.1.2.2
  simp only at e0 e1 e2 e3 e4 e5
  go_wp2_with fail
  refine (HC1.out _ (HA.out.later HK.out.1.1)).mono ?_
  rw [Hok.out]
  rintro e w1 ⟨rfl, hb⟩
  have HK1 := Lib.hid (HK.out.later hb)
  clear hb HK d0 d1 d2 d3 d4 d5 e0 e1 e2 e3 e4 e5
  cases ok with
  | false =>
    obtain rfl := No.out (fun h => by cases h.1)
    have y0 := HK1.out.2.2.free 0
    have y1 := HK1.out.2.2.free 1
    have y2 := HK1.out.2.2.free 2
    have y3 := HK1.out.2.2.free 3
    have y4 := HK1.out.2.2.free 4
    have y5 := HK1.out.2.2.free 5
    obtain ⟨z0, z1, z2, z3, z4, z5⟩ := au_cells HK1.out.2.2
    simp only at z0 z1 z2 z3 z4 z5
    have HZn := Lib.hid (au6_whole (y := au0) (p := ⟨none, 0, 0, none, 0, 0, none, 0, 0⟩) HK1.out.2.2)
    go_wp2_with fail
    obtain ⟨q0, q1, q2, q3, q4, q5⟩ := au_cells HZn.out
    simp only [au6] at q0 q1 q2 q3 q4 q5
    refine bodyPost_ret (v := .tuple #[auAt au0 ⟨none, 0, 0, none, 0, 0, none, 0, 0⟩, .int .i64 1]) (by simp [results, Try.results12, go_sem, q0, q1, q2, q3, q4, q5]) rfl ⟨⟨none, 0, 0, none, 0, 0, none, 0, 0⟩, rfl, au_in_none _, Hend.out w1 _ rfl HK1.out.1.1, fun _ _ _ => off_none _⟩
  | true =>
  obtain ⟨d0, d1, d2, d3, d4, d5⟩ := config_cells HK1.out.1.2.1
  simp only at d0 d1 d2 d3 d4 d5
  obtain ⟨x0, x1, x2, x3, x4, x5, x6, x7, x8, x9, x10⟩ := ml_cells HK1.out.2.1
  simp only at x0 x1 x2 x3 x4 x5 x6 x7 x8 x9 x10
  go_wp2_with fail
  refine (HC2.out _ (HM.out.later HK1.out.1.1)).mono ?_
  rw [Hok2.out]
  rintro e w2 ⟨rfl, hb⟩
  have HK2 := Lib.hid (HK1.out.later hb)
  clear hb HK1 d0 d1 d2 d3 d4 d5 x0 x1 x2 x3 x4 x5 x6 x7 x8 x9 x10
  cases ok2 with
  | false =>
    obtain rfl := No.out (fun h => by cases h.2.1)
    have y0 := HK2.out.2.2.free 0
    have y1 := HK2.out.2.2.free 1
    have y2 := HK2.out.2.2.free 2
    have y3 := HK2.out.2.2.free 3
    have y4 := HK2.out.2.2.free 4
    have y5 := HK2.out.2.2.free 5
    obtain ⟨z0, z1, z2, z3, z4, z5⟩ := au_cells HK2.out.2.2
    simp only at z0 z1 z2 z3 z4 z5
    have HZn := Lib.hid (au6_whole (y := au0) (p := ⟨none, 0, 0, none, 0, 0, none, 0, 0⟩) HK2.out.2.2)
    go_wp2_with fail
    obtain ⟨q0, q1, q2, q3, q4, q5⟩ := au_cells HZn.out
    simp only [au6] at q0 q1 q2 q3 q4 q5
    refine bodyPost_ret (v := .tuple #[auAt au0 ⟨none, 0, 0, none, 0, 0, none, 0, 0⟩, .int .i64 1]) (by simp [results, Try.results12, go_sem, q0, q1, q2, q3, q4, q5]) rfl ⟨⟨none, 0, 0, none, 0, 0, none, 0, 0⟩, rfl, au_in_none _, Hend.out w2 _ rfl HK2.out.1.1, fun _ _ _ => off_none _⟩
  | true =>
  obtain ⟨x0, x1, x2, x3, x4, x5, x6, x7, x8, x9, x10⟩ := ml_cells HK2.out.2.1
  simp only at x0 x1 x2 x3 x4 x5 x6 x7 x8 x9 x10
  by_cases htw : tg = who
  rotate_left 1
  · obtain rfl := No.out fun h => htw h.2.2
    have htw' : (tg != who) = true := bne_iff_ne.2 htw
    clear htw
    have y0 := HK2.out.2.2.free 0
    have y1 := HK2.out.2.2.free 1
    have y2 := HK2.out.2.2.free 2
    have y3 := HK2.out.2.2.free 3
    have y4 := HK2.out.2.2.free 4
    have y5 := HK2.out.2.2.free 5
    obtain ⟨z0, z1, z2, z3, z4, z5⟩ := au_cells HK2.out.2.2
    simp only at z0 z1 z2 z3 z4 z5
    have HZn := Lib.hid (au6_whole (y := au0) (p := ⟨none, 0, 0, none, 0, 0, none, 0, 0⟩) HK2.out.2.2)
    go_wp2_with fail
    obtain ⟨q0, q1, q2, q3, q4, q5⟩ := au_cells HZn.out
    simp only [au6] at q0 q1 q2 q3 q4 q5
    refine bodyPost_ret (v := .tuple #[auAt au0 ⟨none, 0, 0, none, 0, 0, none, 0, 0⟩, .int .i64 1]) (by simp [results, Try.results12, go_sem, q0, q1, q2, q3, q4, q5]) rfl ⟨⟨none, 0, 0, none, 0, 0, none, 0, 0⟩, rfl, au_in_none _, Hend.out w2 _ rfl HK2.out.1.1, fun _ _ _ => off_none _⟩
  subst htw
  have htw' : (tg != tg) = false := by simp
  clear No Hend
  have Hau := Lib.hid (of_decide_eq_true Hok.out)
  have Hmo := Lib.hid (mail_shape (of_decide_eq_true Hok2.out))
  have hres : res = (if hearsA tg ⟨tr, ph, told, use, inc, moved⟩ ⟨fr, tg, clk, rows, mt, ma, mv, asks, try_, mph, echo⟩ then toldA ⟨tr, ph, told, use, inc, moved⟩ ⟨fr, tg, clk, rows, mt, ma, mv, asks, try_, mph, echo⟩ else ⟨tr, ph, told, use, inc, moved⟩, 0) := Hres.out.symm.trans (if_pos ⟨Hau.out, of_decide_eq_true Hok2.out, rfl⟩)
  have Hr := Lib.hid hres
  clear hres Hres
  go_wp2_with fail
  clear x0 x1 x2 x3 x4 x5 x6 x7 x8 x9 x10 htw'
  refine wp_region_each_at ?hm ?hb (fun a0 d a' w' => ∃ (e0 e1 e2 e3 e4 e6 : Value) (gb : Nat) (A1 : Option Addr) (M1 : Nat) (K1 : Nat) (A2 : Option Addr) (M2 : Nat) (K2 : Nat) (A3 : Option Addr) (M3 : Nat) (K3 : Nat), a' = putAll a0 [(32, e0), (33, e1), (34, e2), (35, e3), (10, e4), (11, e6)] ∧ Below w2.heap.size w2 w' ∧ (d 0 = true → e0 = (auAt ⟨tr, ph, told, use, inc, moved⟩ ⟨a1, m1, k1, a2, m2, k2, a3, m3, k3⟩)) ∧ (d 1 = true → (e1 = auAt ⟨tr, ph, told, use, inc, moved⟩ ⟨A1, M1, K1, A2, M2, K2, A3, M3, K3⟩ ∧ OwnAu w' w2.heap.size ⟨A1, M1, K1, A2, M2, K2, A3, M3, K3⟩ ⟨tr, ph, told, use, inc, moved⟩ ∧ (d 4 = true → OffAl gb ⟨A1, M1, K1, A2, M2, K2, A3, M3, K3⟩))) ∧ (d 2 = true → e2 = (.pointer (some ⟨w.heap.size + 1 + 1, 0, none⟩))) ∧ (d 3 = true → e3 = (.int .i64 fr)) ∧ (d 4 = true → (e4 = .pointer (some ⟨gb, 0, none⟩) ∧ w2.heap.size ≤ gb ∧ gb < w'.heap.size ∧ (d 5 = false → Whole w' gb 33 (auCells au0 (.slice none 0 0) (.slice none 0 0) (.slice none 0 0))))) ∧ (d 5 = true → (d 1 = true ∧ d 4 = true ∧ Whole w' gb 33 (auCells ⟨tr, ph, told, use, inc, moved⟩ (.slice A1 M1 K1) (.slice A2 M2 K2) (.slice A3 M3 K3)))) ∧ (d 6 = true → e6 = (.int .i64 fr))) ?h0 ?step ?ends
  case hm => kernel_rfl
  case hb => kernel_rfl
  case h0 =>
    refine ⟨undef, undef, undef, undef, undef, undef, 0, none, 0, 0, none, 0, 0, none, 0, 0, ?_, (Below.refl _ _).drew, fun h => absurd h (by decide), fun h => absurd h (by decide), fun h => absurd h (by decide), fun h => absurd h (by decide), fun h => absurd h (by decide), fun h => absurd h (by decide), fun h => absurd h (by decide)⟩
    simp only [putAll, Act.put, List.setIfInBounds_toArray, List.set_cons_zero, List.set_cons_succ]
  case step =>
    intro i d a' w' hi hJ hd hk
    obtain ⟨e0, e1, e2, e3, e4, e6, gb, A1, M1, K1, A2, M2, K2, A3, M3, K3, rfl, hC⟩ := hJ
    obtain ⟨hB, hC⟩ := hC
    obtain ⟨c0, hC⟩ := hC
    obtain ⟨c1, hC⟩ := hC
    obtain ⟨c2, hC⟩ := hC
    obtain ⟨c3, hC⟩ := hC
    obtain ⟨c4, hC⟩ := hC
    obtain ⟨c5, hC⟩ := hC
    have c6 := hC
    clear hC
    match i, hi, hd, hk with
    | 0, _, hd, hk =>
      obtain ⟨z0, z1, z2, z3, z4, z5⟩ := au_cells (HK2.out.later hB).1.2.2
      simp only at z0 z1 z2 z3 z4 z5
      apply wpOp_at
      case ho => rfl
      intro K hK
      simp only [putAll, Act.put, List.setIfInBounds_toArray, List.set_cons_zero, List.set_cons_succ]
      go_simp
      refine hK _ _ ⟨(auAt ⟨tr, ph, told, use, inc, moved⟩ ⟨a1, m1, k1, a2, m2, k2, a3, m3, k3⟩), e1, e2, e3, e4, e6, gb, A1, M1, K1, A2, M2, K2, A3, M3, K3, ?_, hB, fun _ => rfl, c1, c2, c3, c4, c5, c6⟩
      simp only [putAll, Act.put, List.setIfInBounds_toArray, List.set_cons_zero, List.set_cons_succ]
    | 1, _, hd, hk =>
      have h0 : d 0 = true := hk 0 (by decide +kernel)
      obtain rfl := c0 h0
      apply wpOp_at
      case ho => rfl
      intro K hK
      simp only [putAll, Act.put, List.setIfInBounds_toArray, List.set_cons_zero, List.set_cons_succ]
      go_simp
      refine (HC3.out (Hlen.out Hau.out) w' (HA.out.later (HK2.out.later hB).1.1)).mono ?_
      rintro e w'' ⟨⟨A1', M1', K1', A2', M2', K2', A3', M3', K3'⟩, rfl, hO, hb⟩
      refine hK _ _ ⟨(auAt ⟨tr, ph, told, use, inc, moved⟩ ⟨a1, m1, k1, a2, m2, k2, a3, m3, k3⟩), auAt ⟨tr, ph, told, use, inc, moved⟩ ⟨A1', M1', K1', A2', M2', K2', A3', M3', K3'⟩, e2, e3, e4, e6, gb, A1', M1', K1', A2', M2', K2', A3', M3', K3', ?_, hB.trans (hb.mono hB.size), c0, fun _ => ⟨rfl, hO.mono hB.size, fun h => hO.off (Or.inl (c4 h).2.2.1)⟩, c2, c3, fun h => ⟨(c4 h).1, (c4 h).2.1, Nat.lt_of_lt_of_le (c4 h).2.2.1 hb.size, fun h5 => ((c4 h).2.2.2 h5).later hb (c4 h).2.2.1⟩, fun h => Bool.noConfusion (hd.symm.trans (c5 h).1), c6⟩
      simp only [putAll, Act.put, List.setIfInBounds_toArray, List.set_cons_zero, List.set_cons_succ]
    | 2, _, hd, hk =>
      apply wpOp_at
      case ho => rfl
      intro K hK
      simp only [putAll, Act.put, List.setIfInBounds_toArray, List.set_cons_zero, List.set_cons_succ]
      go_simp
      refine hK _ _ ⟨e0, e1, (.pointer (some ⟨w.heap.size + 1 + 1, 0, none⟩)), e3, e4, e6, gb, A1, M1, K1, A2, M2, K2, A3, M3, K3, ?_, hB, c0, c1, fun _ => rfl, c3, c4, c5, c6⟩
      simp only [putAll, Act.put, List.setIfInBounds_toArray, List.set_cons_zero, List.set_cons_succ]
    | 3, _, hd, hk =>
      have h2 : d 2 = true := hk 2 (by decide +kernel)
      obtain rfl := c2 h2
      obtain ⟨x0, x1, x2, x3, x4, x5, x6, x7, x8, x9, x10⟩ := ml_cells (HK2.out.later hB).2.1
      simp only at x0 x1 x2 x3 x4 x5 x6 x7 x8 x9 x10
      apply wpOp_at
      case ho => rfl
      intro K hK
      simp only [putAll, Act.put, List.setIfInBounds_toArray, List.set_cons_zero, List.set_cons_succ]
      go_simp
      refine hK _ _ ⟨e0, e1, (.pointer (some ⟨w.heap.size + 1 + 1, 0, none⟩)), (.int .i64 fr), e4, e6, gb, A1, M1, K1, A2, M2, K2, A3, M3, K3, ?_, hB, c0, c1, c2, fun _ => rfl, c4, c5, c6⟩
      simp only [putAll, Act.put, List.setIfInBounds_toArray, List.set_cons_zero, List.set_cons_succ]
    | 4, _, hd, hk =>
      have hb := below_box w' (.cells (auCells au0 (.slice none 0 0) (.slice none 0 0) (.slice none 0 0)) 33)
      apply wpOp_at
      case ho => rfl
      intro K hK
      simp only [putAll, Act.put, List.setIfInBounds_toArray, List.set_cons_zero, List.set_cons_succ]
      go_simp
      refine hK _ _ ⟨e0, e1, e2, e3, .pointer (some ⟨w'.heap.size, 0, none⟩), e6, w'.heap.size, A1, M1, K1, A2, M2, K2, A3, M3, K3, ?_, hB.trans (hb.mono hB.size), c0, fun h => ⟨(c1 h).1, (c1 h).2.1.later hb, fun _ => (c1 h).2.1.off (Or.inr (Nat.le_refl _))⟩, c2, c3, fun _ => ⟨rfl, hB.size, by simp, fun _ => Whole.made w' _ _⟩, fun h => Bool.noConfusion (hd.symm.trans (c5 h).2.1), c6⟩
      simp only [putAll, Act.put, List.setIfInBounds_toArray, List.set_cons_zero, List.set_cons_succ]
    | 5, _, hd, hk =>
      have h0 : d 0 = true := hk 0 (by decide +kernel)
      have h1 : d 1 = true := hk 1 (by decide +kernel)
      have h4 : d 4 = true := hk 4 (by decide +kernel)
      obtain rfl := c0 h0
      obtain ⟨rfl, hO1, ho1⟩ := c1 h1
      obtain ⟨rfl, hg1, hg2, hw0⟩ := c4 h4
      have hZ := hw0 hd
      have y0 := hZ.free 0
      have y1 := hZ.free 1
      have y2 := hZ.free 2
      have y3 := hZ.free 3
      have y4 := hZ.free 4
      have y5 := hZ.free 5
      obtain ⟨z0, z1, z2, z3, z4, z5⟩ := au_cells hZ
      simp only at z0 z1 z2 z3 z4 z5
      have hX := au6_whole (y := ⟨tr, ph, told, use, inc, moved⟩) (p := ⟨A1, M1, K1, A2, M2, K2, A3, M3, K3⟩) hZ
      have hq := OwnAu.six_off hO1 (ho1 h4) ⟨tr, ph, told, use, inc, moved⟩ ⟨A1, M1, K1, A2, M2, K2, A3, M3, K3⟩
      have qb := au6_below (g := gb) (y := ⟨tr, ph, told, use, inc, moved⟩) (p := ⟨A1, M1, K1, A2, M2, K2, A3, M3, K3⟩) hB hg1
      have qs : (au6 w' gb ⟨tr, ph, told, use, inc, moved⟩ ⟨A1, M1, K1, A2, M2, K2, A3, M3, K3⟩).heap.size = w'.heap.size := au6_size
      simp only [au6] at hX hq qb qs
      apply wpOp_at
      case ho => rfl
      intro K hK
      simp only [putAll, Act.put, List.setIfInBounds_toArray, List.set_cons_zero, List.set_cons_succ]
      go_simp
      refine hK _ _ ⟨(auAt ⟨tr, ph, told, use, inc, moved⟩ ⟨a1, m1, k1, a2, m2, k2, a3, m3, k3⟩), auAt ⟨tr, ph, told, use, inc, moved⟩ ⟨A1, M1, K1, A2, M2, K2, A3, M3, K3⟩, e2, e3, .pointer (some ⟨gb, 0, none⟩), e6, gb, A1, M1, K1, A2, M2, K2, A3, M3, K3, ?_, qb, c0, fun _ => ⟨rfl, hq, fun _ => ho1 h4⟩, c2, c3, fun _ => ⟨rfl, hg1, by rw [qs]; exact hg2, fun h => Bool.noConfusion (show true = false from h)⟩, fun _ => ⟨h1, h4, hX⟩, c6⟩
      simp only [putAll, Act.put, List.setIfInBounds_toArray, List.set_cons_zero, List.set_cons_succ]
    | 6, _, hd, hk =>
      have h3 : d 3 = true := hk 3 (by decide +kernel)
      obtain rfl := c3 h3
      apply wpOp_at
      case ho => rfl
      intro K hK
      simp only [putAll, Act.put, List.setIfInBounds_toArray, List.set_cons_zero, List.set_cons_succ]
      go_simp
      refine hK _ _ ⟨e0, e1, e2, (.int .i64 fr), e4, (.int .i64 fr), gb, A1, M1, K1, A2, M2, K2, A3, M3, K3, ?_, hB, c0, c1, c2, c3, c4, c5, fun _ => rfl⟩
      simp only [putAll, Act.put, List.setIfInBounds_toArray, List.set_cons_zero, List.set_cons_succ]
    | k + 7, hi, _, _ => exact absurd hi (by simp)
  case ends =>
    intro d a' w3 hJ hall
    obtain ⟨e0, e1, e2, e3, e4, e6, gb, A1, M1, K1, A2, M2, K2, A3, M3, K3, rfl, hC⟩ := hJ
    obtain ⟨hB, hC⟩ := hC
    obtain ⟨c0, hC⟩ := hC
    obtain ⟨c1, hC⟩ := hC
    obtain ⟨c2, hC⟩ := hC
    obtain ⟨c3, hC⟩ := hC
    obtain ⟨c4, hC⟩ := hC
    obtain ⟨c5, hC⟩ := hC
    have c6 := hC
    clear hC
    obtain ⟨h1, h4, hX⟩ := c5 (hall 5 (by decide +kernel))
    obtain ⟨rfl, hO, ho⟩ := c1 h1
    obtain ⟨rfl, hg1, hg2, -⟩ := c4 h4
    obtain rfl := c0 (hall 0 (by decide +kernel))
    obtain rfl := c2 (hall 2 (by decide +kernel))
    obtain rfl := c3 (hall 3 (by decide +kernel))
    obtain rfl := c6 (hall 6 (by decide +kernel))
    have HK3 := Lib.hid (HK2.out.later hB)
    have HX3 := Lib.hid hX
    have HO3 := Lib.hid hO
    have Hof := Lib.hid (ho h4)
    have Hgb : Hid (w2.heap.size ≤ gb) := hg1
    have hs2 : w.heap.size + 1 + 1 + 1 < w2.heap.size := HK2.out.2.2.lt
    have Hs2 := Lib.hid hs2
    clear c0 c1 c2 c3 c4 c5 c6 hall hX hB h1 h4 hO ho hg1 hg2 hs2 HK2
    simp only [putAll, Act.put, List.setIfInBounds_toArray, List.set_cons_zero, List.set_cons_succ]
    obtain ⟨hr, Hhr⟩ : ∃ z, Hid (hearsA tg ⟨tr, ph, told, use, inc, moved⟩ ⟨fr, tg, clk, rows, mt, ma, mv, asks, try_, mph, echo⟩ = z) := ⟨_, Lib.hid rfl⟩
    obtain ⟨nn, Hnn⟩ : ∃ z, Hid (noneA ⟨tr, ph, told, use, inc, moved⟩ = z) := ⟨_, Lib.hid rfl⟩
    go_upto_region 4 with fail
    go_cut [54] from 36 to 54 (fun s54 wx => s54 = .bool (!hr) ∧ Hid (Below w3.heap.size w3 wx))
    case first =>
      cases nn with
      | true =>
        obtain rfl : hr = false := Hhr.out.symm.trans (by unfold hearsA; rw [Hnn.out]; rfl)
        have KP : Hid (∀ w', Below w3.heap.size w3 w' → (fun w' => Below w3.heap.size w3 w' ∧ (w'.cell? ⟨w.heap.size + 1, 0, none⟩ = some (.int .i64 tr) ∧ w'.cell? ⟨w.heap.size + 1, 1, none⟩ = some (.int .i64 ph) ∧ w'.cell? ⟨w.heap.size + 1, 2, none⟩ = some (.slice a1 m1 k1) ∧ w'.cell? ⟨w.heap.size + 1, 3, none⟩ = some (.slice a2 m2 k2) ∧ w'.cell? ⟨w.heap.size + 1, 4, none⟩ = some (.slice a3 m3 k3) ∧ w'.cell? ⟨w.heap.size + 1, 5, none⟩ = some (.bool moved)) ∧ w'.cell? ⟨w.heap.size + 1 + 1, 10, none⟩ = some (.slice ea em ecp)) w') := fun w' h => ⟨h, au_cells (HK3.out.later h).1.2.2, (ml_cells (HK3.out.later h).2.1).2.2.2.2.2.2.2.2.2.2⟩
        refine wp_region_held_drew (S := (fun w' => Below w3.heap.size w3 w' ∧ (w'.cell? ⟨w.heap.size + 1, 0, none⟩ = some (.int .i64 tr) ∧ w'.cell? ⟨w.heap.size + 1, 1, none⟩ = some (.int .i64 ph) ∧ w'.cell? ⟨w.heap.size + 1, 2, none⟩ = some (.slice a1 m1 k1) ∧ w'.cell? ⟨w.heap.size + 1, 3, none⟩ = some (.slice a2 m2 k2) ∧ w'.cell? ⟨w.heap.size + 1, 4, none⟩ = some (.slice a3 m3 k3) ∧ w'.cell? ⟨w.heap.size + 1, 5, none⟩ = some (.bool moved)) ∧ w'.cell? ⟨w.heap.size + 1 + 1, 10, none⟩ = some (.slice ea em ecp))) (by kernel_rfl) (KP.out _ (Below.refl _ _).drew) (fun hHeld => ?_)
        refine wpAnyH_take (i := 0) (oi := ⟨some 36, _, _, _, _, _⟩) (v := ?_) rfl (by kernel_rfl) (by kernel_rfl) (by kernel_rfl) (fun _ _ _ h => h) (Or.inl ⟨by rfl, ?_⟩) (by assumption) ?_
        rotate_left 1
        · intro w hSw
          try dsimp only at hSw
          go_simp
          try with_reducible rfl
        simp only [Act.put, List.setIfInBounds_toArray, List.set_cons_zero, List.set_cons_succ]
        refine wpAnyH_ready (rs := [1]) (by kernel_rfl) (by simp) ?_
        refine AllReadyH.cons rfl (fun K hK => ?_) AllReadyH.nil
        go_simp
        go_wp2_with (go_at_call 25; refine (HC5.out _).mono ?_; rw [Hnn.out]; rintro ee wo ⟨rfl, hb2⟩; have hS1 := held_next hHeld.1 hb2)
        refine hK.out _ _ (KP.out _ hS1) (fun hHeld2 => ?_)
        clear hHeld hK K
        have hHeld := hHeld2
        clear hHeld2
        refine wpAnyH_take (i := 2) (oi := ⟨some 38, _, _, _, _, _⟩) (v := ?_) rfl (by kernel_rfl) (by kernel_rfl) (by kernel_rfl) (fun _ _ _ h => h) (Or.inl ⟨by rfl, ?_⟩) (by assumption) ?_
        rotate_left 1
        · intro w hSw
          try dsimp only at hSw
          go_simp
          try with_reducible rfl
        simp only [Act.put, List.setIfInBounds_toArray, List.set_cons_zero, List.set_cons_succ]
        refine wpAnyH_take (i := 3) (oi := ⟨some 39, _, _, _, _, _⟩) (v := undef) rfl (by kernel_rfl) (by kernel_rfl) (by kernel_rfl) (fun _ _ _ h => h) (Or.inr ⟨by rfl, rfl⟩) (by assumption) ?_
        simp only [Act.put, List.setIfInBounds_toArray, List.set_cons_zero, List.set_cons_succ]
        refine wpAnyH_take (i := 4) (oi := ⟨some 40, _, _, _, _, _⟩) (v := undef) rfl (by kernel_rfl) (by kernel_rfl) (by kernel_rfl) (fun _ _ _ h => h) (Or.inr ⟨by rfl, rfl⟩) (by assumption) ?_
        simp only [Act.put, List.setIfInBounds_toArray, List.set_cons_zero, List.set_cons_succ]
        refine wpAnyH_take (i := 5) (oi := ⟨some 41, _, _, _, _, _⟩) (v := undef) rfl (by kernel_rfl) (by kernel_rfl) (by kernel_rfl) (fun _ _ _ h => h) (Or.inr ⟨by rfl, rfl⟩) (by assumption) ?_
        simp only [Act.put, List.setIfInBounds_toArray, List.set_cons_zero, List.set_cons_succ]
        refine wpAnyH_take (i := 6) (oi := ⟨some 42, _, _, _, _, _⟩) (v := undef) rfl (by kernel_rfl) (by kernel_rfl) (by kernel_rfl) (fun _ _ _ h => h) (Or.inr ⟨by rfl, rfl⟩) (by assumption) ?_
        simp only [Act.put, List.setIfInBounds_toArray, List.set_cons_zero, List.set_cons_succ]
        refine wpAnyH_take (i := 7) (oi := ⟨some 43, _, _, _, _, _⟩) (v := undef) rfl (by kernel_rfl) (by kernel_rfl) (by kernel_rfl) (fun _ _ _ h => h) (Or.inr ⟨by rfl, rfl⟩) (by assumption) ?_
        simp only [Act.put, List.setIfInBounds_toArray, List.set_cons_zero, List.set_cons_succ]
        refine wpAnyH_take (i := 8) (oi := ⟨some 44, _, _, _, _, _⟩) (v := undef) rfl (by kernel_rfl) (by kernel_rfl) (by kernel_rfl) (fun _ _ _ h => h) (Or.inr ⟨by rfl, rfl⟩) (by assumption) ?_
        simp only [Act.put, List.setIfInBounds_toArray, List.set_cons_zero, List.set_cons_succ]
        refine wpAnyH_take (i := 9) (oi := ⟨some 45, _, _, _, _, _⟩) (v := undef) rfl (by kernel_rfl) (by kernel_rfl) (by kernel_rfl) (fun _ _ _ h => h) (Or.inr ⟨by rfl, rfl⟩) (by assumption) ?_
        simp only [Act.put, List.setIfInBounds_toArray, List.set_cons_zero, List.set_cons_succ]
        refine wpAnyH_take (i := 10) (oi := ⟨some 46, _, _, _, _, _⟩) (v := undef) rfl (by kernel_rfl) (by kernel_rfl) (by kernel_rfl) (fun _ _ _ h => h) (Or.inr ⟨by rfl, rfl⟩) (by assumption) ?_
        simp only [Act.put, List.setIfInBounds_toArray, List.set_cons_zero, List.set_cons_succ]
        refine wpAnyH_take (i := 11) (oi := ⟨some 47, _, _, _, _, _⟩) (v := ?_) rfl (by kernel_rfl) (by kernel_rfl) (by kernel_rfl) (fun _ _ _ h => h) (Or.inl ⟨by rfl, ?_⟩) (by assumption) ?_
        rotate_left 1
        · intro w hSw
          try dsimp only at hSw
          go_simp
          try with_reducible rfl
        simp only [Act.put, List.setIfInBounds_toArray, List.set_cons_zero, List.set_cons_succ]
        refine wpAnyH_take (i := 12) (oi := ⟨some 48, _, _, _, _, _⟩) (v := ?_) rfl (by kernel_rfl) (by kernel_rfl) (by kernel_rfl) (fun _ _ _ h => h) (Or.inl ⟨by rfl, ?_⟩) (by assumption) ?_
        rotate_left 1
        · intro w hSw
          try dsimp only at hSw
          go_simp
          try with_reducible rfl
        simp only [Act.put, List.setIfInBounds_toArray, List.set_cons_zero, List.set_cons_succ]
        refine wpAnyH_take (i := 13) (oi := ⟨some 49, _, _, _, _, _⟩) (v := undef) rfl (by kernel_rfl) (by kernel_rfl) (by kernel_rfl) (fun _ _ _ h => h) (Or.inr ⟨by rfl, rfl⟩) (by assumption) ?_
        simp only [Act.put, List.setIfInBounds_toArray, List.set_cons_zero, List.set_cons_succ]
        refine wpAnyH_take (i := 14) (oi := ⟨some 50, _, _, _, _, _⟩) (v := undef) rfl (by kernel_rfl) (by kernel_rfl) (by kernel_rfl) (fun _ _ _ h => h) (Or.inr ⟨by rfl, rfl⟩) (by assumption) ?_
        simp only [Act.put, List.setIfInBounds_toArray, List.set_cons_zero, List.set_cons_succ]
        refine wpAnyH_take (i := 15) (oi := ⟨some 51, _, _, _, _, _⟩) (v := undef) rfl (by kernel_rfl) (by kernel_rfl) (by kernel_rfl) (fun _ _ _ h => h) (Or.inr ⟨by rfl, rfl⟩) (by assumption) ?_
        simp only [Act.put, List.setIfInBounds_toArray, List.set_cons_zero, List.set_cons_succ]
        refine wpAnyH_take (i := 16) (oi := ⟨some 52, _, _, _, _, _⟩) (v := undef) rfl (by kernel_rfl) (by kernel_rfl) (by kernel_rfl) (fun _ _ _ h => h) (Or.inr ⟨by rfl, rfl⟩) (by assumption) ?_
        simp only [Act.put, List.setIfInBounds_toArray, List.set_cons_zero, List.set_cons_succ]
        refine wpAnyH_take (i := 17) (oi := ⟨some 53, _, _, _, _, _⟩) (v := undef) rfl (by kernel_rfl) (by kernel_rfl) (by kernel_rfl) (fun _ _ _ h => h) (Or.inr ⟨by rfl, rfl⟩) (by assumption) ?_
        simp only [Act.put, List.setIfInBounds_toArray, List.set_cons_zero, List.set_cons_succ]
        refine wpAnyH_take (i := 18) (oi := ⟨some 54, _, _, _, _, _⟩) (v := ?_) rfl (by kernel_rfl) (by kernel_rfl) (by kernel_rfl) (fun _ _ _ h => h) (Or.inl ⟨by rfl, ?_⟩) (by assumption) ?_
        rotate_left 1
        · intro w hSw
          try dsimp only at hSw
          go_simp
          try with_reducible rfl
        simp only [Act.put, List.setIfInBounds_toArray, List.set_cons_zero, List.set_cons_succ]
        refine wpAnyH_done (by kernel_rfl) ?_ _
        go_wp2_with fail
        go_meet
        exact ⟨by rfl, hHeld.1⟩
      | false =>
        have hrun : runsOk ⟨n, q, r, p, kk, cc⟩ tg ⟨tr, ph, told, use, inc, moved⟩ := Hau.out.2.2.resolve_left (of_decide_eq_false Hnn.out)
        have hl1 : (told.length : Int) = n := hrun.2.2.1
        have hle : (echo.length : Int) = n := Hmo.out.2.2
        have hfr : 0 ≤ fr ∧ fr < n := Hmo.out.2.1
        have hwh : 0 ≤ tg ∧ tg < n := Hau.out.2.1
        have hm1 : m1 = told.length := HA.out.1.1
        have hme : em = echo.length := HM.out.2.2.1
        obtain ⟨be, oe, hbe, u0, u1⟩ := HM.out.2.2.2.at (i := tg.toNat) (show tg.toNat < echo.length by omega)
        obtain ⟨bt, ot, hbt, t0⟩ := HA.out.1.2.at (i := fr.toNat) (show fr.toNat < told.length by omega)
        simp only at hbt t0
        subst hbe hbt
        obtain ⟨y, Hy⟩ : ∃ z, Hid (lkAt echo tg.toNat = z) := ⟨_, rfl⟩
        obtain ⟨tb, Htb⟩ : ∃ z, Hid (told[fr.toNat]?.getD false = z) := ⟨_, rfl⟩
        rw [Hy.out] at u0 u1
        rw [Htb.out] at t0
        obtain ⟨y1, y2⟩ := y
        simp only at u0 u1
        obtain ⟨z, Hz⟩ : ∃ z, Hid ((!decide (y1 = tr ∧ y2 = ph)) = z) := ⟨_, rfl⟩
        have heq : ∀ w : World, (binOp .neq 29 (.agg #[.int .i64 y1, .int .i64 y2]) (.agg #[.int .i64 tr, .int .i64 ph])).run Try.prog w = .ok (.bool z) w := fun w => (run_neq_lk w y1 y2 tr ph).trans (by rw [← Hz.out])
        have hhr : hr = (!z && !tb) := Hhr.out.symm.trans (by
          unfold hearsA
          rw [Hnn.out, ← Hz.out, ← Htb.out]
          show (true && (decide ((lkAt echo tg.toNat).1 = tr ∧ (lkAt echo tg.toNat).2 = ph) && !(told[fr.toNat]?.getD false))) = _
          rw [Hy.out, Bool.true_and, Bool.not_not])
        have KP : Hid (∀ w', Below w3.heap.size w3 w' → (fun w' => Below w3.heap.size w3 w' ∧ (w'.cell? ⟨w.heap.size + 1, 0, none⟩ = some (.int .i64 tr) ∧ w'.cell? ⟨w.heap.size + 1, 1, none⟩ = some (.int .i64 ph) ∧ w'.cell? ⟨w.heap.size + 1, 2, none⟩ = some (.slice (some ⟨bt, ot, none⟩) m1 k1) ∧ w'.cell? ⟨w.heap.size + 1, 3, none⟩ = some (.slice a2 m2 k2) ∧ w'.cell? ⟨w.heap.size + 1, 4, none⟩ = some (.slice a3 m3 k3) ∧ w'.cell? ⟨w.heap.size + 1, 5, none⟩ = some (.bool moved)) ∧ w'.cell? ⟨w.heap.size + 1 + 1, 10, none⟩ = some (.slice (some ⟨be, oe, none⟩) em ecp) ∧ w'.cell? ⟨be, oe + tg.toNat * 2, none⟩ = some (.int .i64 y1) ∧ w'.cell? ⟨be, oe + tg.toNat * 2 + 1, none⟩ = some (.int .i64 y2) ∧ w'.cell? ⟨bt, ot + fr.toNat, none⟩ = some (.bool tb)) w') := fun w' h => ⟨h, au_cells (HK3.out.later h).1.2.2, (ml_cells (HK3.out.later h).2.1).2.2.2.2.2.2.2.2.2.2, cell_later (held_next HK3.out.1.1 h) u0, cell_later (held_next HK3.out.1.1 h) u1, cell_later (held_next HK3.out.1.1 h) t0⟩
        have f0 : 0 ≤ fr := hfr.1
        have f1 : fr < (m1 : Int) := by omega
        have w0' : 0 ≤ tg := hwh.1
        have w1' : tg < (em : Int) := by omega
        have Hl1 := Lib.hid (And.intro hl1 (And.intro hle (And.intro hm1 hme)))
        clear hl1 hle hm1 hme hfr hwh hrun u0 u1 t0
        cases z with
        | true =>
          obtain rfl : hr = false := hhr
          refine wp_region_held_drew (S := (fun w' => Below w3.heap.size w3 w' ∧ (w'.cell? ⟨w.heap.size + 1, 0, none⟩ = some (.int .i64 tr) ∧ w'.cell? ⟨w.heap.size + 1, 1, none⟩ = some (.int .i64 ph) ∧ w'.cell? ⟨w.heap.size + 1, 2, none⟩ = some (.slice (some ⟨bt, ot, none⟩) m1 k1) ∧ w'.cell? ⟨w.heap.size + 1, 3, none⟩ = some (.slice a2 m2 k2) ∧ w'.cell? ⟨w.heap.size + 1, 4, none⟩ = some (.slice a3 m3 k3) ∧ w'.cell? ⟨w.heap.size + 1, 5, none⟩ = some (.bool moved)) ∧ w'.cell? ⟨w.heap.size + 1 + 1, 10, none⟩ = some (.slice (some ⟨be, oe, none⟩) em ecp) ∧ w'.cell? ⟨be, oe + tg.toNat * 2, none⟩ = some (.int .i64 y1) ∧ w'.cell? ⟨be, oe + tg.toNat * 2 + 1, none⟩ = some (.int .i64 y2) ∧ w'.cell? ⟨bt, ot + fr.toNat, none⟩ = some (.bool tb))) (by kernel_rfl) (KP.out _ (Below.refl _ _).drew) (fun hHeld => ?_)
          refine wpAnyH_take (i := 0) (oi := ⟨some 36, _, _, _, _, _⟩) (v := ?_) rfl (by kernel_rfl) (by kernel_rfl) (by kernel_rfl) (fun _ _ _ h => h) (Or.inl ⟨by rfl, ?_⟩) (by assumption) ?_
          rotate_left 1
          · intro w hSw
            try dsimp only at hSw
            go_simp
            try with_reducible rfl
          simp only [Act.put, List.setIfInBounds_toArray, List.set_cons_zero, List.set_cons_succ]
          refine wpAnyH_ready (rs := [1]) (by kernel_rfl) (by simp) ?_
          refine AllReadyH.cons rfl (fun K hK => ?_) AllReadyH.nil
          go_simp
          go_wp2_with (go_at_call 25; refine (HC5.out _).mono ?_; rw [Hnn.out]; rintro ee wo ⟨rfl, hb2⟩; have hS1 := held_next hHeld.1 hb2)
          refine hK.out _ _ (KP.out _ hS1) (fun hHeld2 => ?_)
          clear hHeld hK K
          have hHeld := hHeld2
          clear hHeld2
          refine wpAnyH_take (i := 2) (oi := ⟨some 38, _, _, _, _, _⟩) (v := ?_) rfl (by kernel_rfl) (by kernel_rfl) (by kernel_rfl) (fun _ _ _ h => h) (Or.inl ⟨by rfl, ?_⟩) (by assumption) ?_
          rotate_left 1
          · intro w hSw
            try dsimp only at hSw
            go_simp
            try with_reducible rfl
          simp only [Act.put, List.setIfInBounds_toArray, List.set_cons_zero, List.set_cons_succ]
          refine wpAnyH_take (i := 3) (oi := ⟨some 39, _, _, _, _, _⟩) (v := ?_) rfl (by kernel_rfl) (by kernel_rfl) (by kernel_rfl) (fun _ _ _ h => h) (Or.inl ⟨by rfl, ?_⟩) (by assumption) ?_
          rotate_left 1
          · intro w hSw
            try dsimp only at hSw
            go_simp
            try with_reducible rfl
          simp only [Act.put, List.setIfInBounds_toArray, List.set_cons_zero, List.set_cons_succ]
          refine wpAnyH_take (i := 4) (oi := ⟨some 40, _, _, _, _, _⟩) (v := ?_) rfl (by kernel_rfl) (by kernel_rfl) (by kernel_rfl) (fun _ _ _ h => h) (Or.inl ⟨by rfl, ?_⟩) (by assumption) ?_
          rotate_left 1
          · intro w hSw
            try dsimp only at hSw
            go_simp
            try with_reducible rfl
          simp only [Act.put, List.setIfInBounds_toArray, List.set_cons_zero, List.set_cons_succ]
          refine wpAnyH_take (i := 5) (oi := ⟨some 41, _, _, _, _, _⟩) (v := ?_) rfl (by kernel_rfl) (by kernel_rfl) (by kernel_rfl) (fun _ _ _ h => h) (Or.inl ⟨by rfl, ?_⟩) (by assumption) ?_
          rotate_left 1
          · intro w hSw
            try dsimp only at hSw
            go_simp
            try with_reducible rfl
          simp only [Act.put, List.setIfInBounds_toArray, List.set_cons_zero, List.set_cons_succ]
          refine wpAnyH_take (i := 6) (oi := ⟨some 42, _, _, _, _, _⟩) (v := ?_) rfl (by kernel_rfl) (by kernel_rfl) (by kernel_rfl) (fun _ _ _ h => h) (Or.inl ⟨by rfl, ?_⟩) (by assumption) ?_
          rotate_left 1
          · intro w hSw
            try dsimp only at hSw
            go_simp
            try with_reducible rfl
          simp only [Act.put, List.setIfInBounds_toArray, List.set_cons_zero, List.set_cons_succ]
          refine wpAnyH_take (i := 7) (oi := ⟨some 43, _, _, _, _, _⟩) (v := ?_) rfl (by kernel_rfl) (by kernel_rfl) (by kernel_rfl) (fun _ _ _ h => h) (Or.inl ⟨by rfl, ?_⟩) (by assumption) ?_
          rotate_left 1
          · intro w hSw
            try dsimp only at hSw
            go_simp
            try with_reducible rfl
          simp only [Act.put, List.setIfInBounds_toArray, List.set_cons_zero, List.set_cons_succ]
          refine wpAnyH_take (i := 8) (oi := ⟨some 44, _, _, _, _, _⟩) (v := ?_) rfl (by kernel_rfl) (by kernel_rfl) (by kernel_rfl) (fun _ _ _ h => h) (Or.inl ⟨by rfl, ?_⟩) (by assumption) ?_
          rotate_left 1
          · intro w hSw
            try dsimp only at hSw
            go_simp
            try with_reducible rfl
          simp only [Act.put, List.setIfInBounds_toArray, List.set_cons_zero, List.set_cons_succ]
          refine wpAnyH_take (i := 9) (oi := ⟨some 45, _, _, _, _, _⟩) (v := ?_) rfl (by kernel_rfl) (by kernel_rfl) (by kernel_rfl) (fun _ _ _ h => h) (Or.inl ⟨by rfl, ?_⟩) (by assumption) ?_
          rotate_left 1
          · intro w hSw
            try dsimp only at hSw
            go_simp
            try with_reducible rfl
          simp only [Act.put, List.setIfInBounds_toArray, List.set_cons_zero, List.set_cons_succ]
          refine wpAnyH_take (i := 10) (oi := ⟨some 46, _, _, _, _, _⟩) (v := ?_) rfl (by kernel_rfl) (by kernel_rfl) (by kernel_rfl) (fun _ _ _ h => h) (Or.inl ⟨by rfl, ?_⟩) (by assumption) ?_
          rotate_left 1
          · intro w hSw
            try dsimp only at hSw
            go_simp
            try with_reducible rfl
          simp only [Act.put, List.setIfInBounds_toArray, List.set_cons_zero, List.set_cons_succ]
          refine wpAnyH_take (i := 11) (oi := ⟨some 47, _, _, _, _, _⟩) (v := ?_) rfl (by kernel_rfl) (by kernel_rfl) (by kernel_rfl) (fun _ _ _ h => h) (Or.inl ⟨by rfl, ?_⟩) (by assumption) ?_
          rotate_left 1
          · intro w hSw
            try dsimp only at hSw
            go_simp
            try with_reducible rfl
          simp only [Act.put, List.setIfInBounds_toArray, List.set_cons_zero, List.set_cons_succ]
          refine wpAnyH_take (i := 12) (oi := ⟨some 48, _, _, _, _, _⟩) (v := ?_) rfl (by kernel_rfl) (by kernel_rfl) (by kernel_rfl) (fun _ _ _ h => h) (Or.inl ⟨by rfl, ?_⟩) (by assumption) ?_
          rotate_left 1
          · intro w hSw
            try dsimp only at hSw
            go_simp
            try with_reducible rfl
          simp only [Act.put, List.setIfInBounds_toArray, List.set_cons_zero, List.set_cons_succ]
          refine wpAnyH_take (i := 13) (oi := ⟨some 49, _, _, _, _, _⟩) (v := undef) rfl (by kernel_rfl) (by kernel_rfl) (by kernel_rfl) (fun _ _ _ h => h) (Or.inr ⟨by rfl, rfl⟩) (by assumption) ?_
          simp only [Act.put, List.setIfInBounds_toArray, List.set_cons_zero, List.set_cons_succ]
          refine wpAnyH_take (i := 14) (oi := ⟨some 50, _, _, _, _, _⟩) (v := undef) rfl (by kernel_rfl) (by kernel_rfl) (by kernel_rfl) (fun _ _ _ h => h) (Or.inr ⟨by rfl, rfl⟩) (by assumption) ?_
          simp only [Act.put, List.setIfInBounds_toArray, List.set_cons_zero, List.set_cons_succ]
          refine wpAnyH_take (i := 15) (oi := ⟨some 51, _, _, _, _, _⟩) (v := undef) rfl (by kernel_rfl) (by kernel_rfl) (by kernel_rfl) (fun _ _ _ h => h) (Or.inr ⟨by rfl, rfl⟩) (by assumption) ?_
          simp only [Act.put, List.setIfInBounds_toArray, List.set_cons_zero, List.set_cons_succ]
          refine wpAnyH_take (i := 16) (oi := ⟨some 52, _, _, _, _, _⟩) (v := undef) rfl (by kernel_rfl) (by kernel_rfl) (by kernel_rfl) (fun _ _ _ h => h) (Or.inr ⟨by rfl, rfl⟩) (by assumption) ?_
          simp only [Act.put, List.setIfInBounds_toArray, List.set_cons_zero, List.set_cons_succ]
          refine wpAnyH_take (i := 17) (oi := ⟨some 53, _, _, _, _, _⟩) (v := undef) rfl (by kernel_rfl) (by kernel_rfl) (by kernel_rfl) (fun _ _ _ h => h) (Or.inr ⟨by rfl, rfl⟩) (by assumption) ?_
          simp only [Act.put, List.setIfInBounds_toArray, List.set_cons_zero, List.set_cons_succ]
          refine wpAnyH_take (i := 18) (oi := ⟨some 54, _, _, _, _, _⟩) (v := ?_) rfl (by kernel_rfl) (by kernel_rfl) (by kernel_rfl) (fun _ _ _ h => h) (Or.inl ⟨by rfl, ?_⟩) (by assumption) ?_
          rotate_left 1
          · intro w hSw
            try dsimp only at hSw
            go_simp
            try with_reducible rfl
          simp only [Act.put, List.setIfInBounds_toArray, List.set_cons_zero, List.set_cons_succ]
          refine wpAnyH_done (by kernel_rfl) ?_ _
          go_wp2_with fail
          go_meet
          exact ⟨by rfl, hHeld.1⟩
        | false =>
          obtain rfl : hr = !tb := hhr
          refine wp_region_held_drew (S := (fun w' => Below w3.heap.size w3 w' ∧ (w'.cell? ⟨w.heap.size + 1, 0, none⟩ = some (.int .i64 tr) ∧ w'.cell? ⟨w.heap.size + 1, 1, none⟩ = some (.int .i64 ph) ∧ w'.cell? ⟨w.heap.size + 1, 2, none⟩ = some (.slice (some ⟨bt, ot, none⟩) m1 k1) ∧ w'.cell? ⟨w.heap.size + 1, 3, none⟩ = some (.slice a2 m2 k2) ∧ w'.cell? ⟨w.heap.size + 1, 4, none⟩ = some (.slice a3 m3 k3) ∧ w'.cell? ⟨w.heap.size + 1, 5, none⟩ = some (.bool moved)) ∧ w'.cell? ⟨w.heap.size + 1 + 1, 10, none⟩ = some (.slice (some ⟨be, oe, none⟩) em ecp) ∧ w'.cell? ⟨be, oe + tg.toNat * 2, none⟩ = some (.int .i64 y1) ∧ w'.cell? ⟨be, oe + tg.toNat * 2 + 1, none⟩ = some (.int .i64 y2) ∧ w'.cell? ⟨bt, ot + fr.toNat, none⟩ = some (.bool tb))) (by kernel_rfl) (KP.out _ (Below.refl _ _).drew) (fun hHeld => ?_)
          refine wpAnyH_take (i := 0) (oi := ⟨some 36, _, _, _, _, _⟩) (v := ?_) rfl (by kernel_rfl) (by kernel_rfl) (by kernel_rfl) (fun _ _ _ h => h) (Or.inl ⟨by rfl, ?_⟩) (by assumption) ?_
          rotate_left 1
          · intro w hSw
            try dsimp only at hSw
            go_simp
            try with_reducible rfl
          simp only [Act.put, List.setIfInBounds_toArray, List.set_cons_zero, List.set_cons_succ]
          refine wpAnyH_ready (rs := [1]) (by kernel_rfl) (by simp) ?_
          refine AllReadyH.cons rfl (fun K hK => ?_) AllReadyH.nil
          go_simp
          go_wp2_with (go_at_call 25; refine (HC5.out _).mono ?_; rw [Hnn.out]; rintro ee wo ⟨rfl, hb2⟩; have hS1 := held_next hHeld.1 hb2)
          refine hK.out _ _ (KP.out _ hS1) (fun hHeld2 => ?_)
          clear hHeld hK K
          have hHeld := hHeld2
          clear hHeld2
          refine wpAnyH_take (i := 2) (oi := ⟨some 38, _, _, _, _, _⟩) (v := ?_) rfl (by kernel_rfl) (by kernel_rfl) (by kernel_rfl) (fun _ _ _ h => h) (Or.inl ⟨by rfl, ?_⟩) (by assumption) ?_
          rotate_left 1
          · intro w hSw
            try dsimp only at hSw
            go_simp
            try with_reducible rfl
          simp only [Act.put, List.setIfInBounds_toArray, List.set_cons_zero, List.set_cons_succ]
          refine wpAnyH_take (i := 3) (oi := ⟨some 39, _, _, _, _, _⟩) (v := ?_) rfl (by kernel_rfl) (by kernel_rfl) (by kernel_rfl) (fun _ _ _ h => h) (Or.inl ⟨by rfl, ?_⟩) (by assumption) ?_
          rotate_left 1
          · intro w hSw
            try dsimp only at hSw
            go_simp
            try with_reducible rfl
          simp only [Act.put, List.setIfInBounds_toArray, List.set_cons_zero, List.set_cons_succ]
          refine wpAnyH_take (i := 4) (oi := ⟨some 40, _, _, _, _, _⟩) (v := ?_) rfl (by kernel_rfl) (by kernel_rfl) (by kernel_rfl) (fun _ _ _ h => h) (Or.inl ⟨by rfl, ?_⟩) (by assumption) ?_
          rotate_left 1
          · intro w hSw
            try dsimp only at hSw
            go_simp
            try with_reducible rfl
          simp only [Act.put, List.setIfInBounds_toArray, List.set_cons_zero, List.set_cons_succ]
          refine wpAnyH_take (i := 5) (oi := ⟨some 41, _, _, _, _, _⟩) (v := ?_) rfl (by kernel_rfl) (by kernel_rfl) (by kernel_rfl) (fun _ _ _ h => h) (Or.inl ⟨by rfl, ?_⟩) (by assumption) ?_
          rotate_left 1
          · intro w hSw
            try dsimp only at hSw
            go_simp
            try with_reducible rfl
          simp only [Act.put, List.setIfInBounds_toArray, List.set_cons_zero, List.set_cons_succ]
          refine wpAnyH_take (i := 6) (oi := ⟨some 42, _, _, _, _, _⟩) (v := ?_) rfl (by kernel_rfl) (by kernel_rfl) (by kernel_rfl) (fun _ _ _ h => h) (Or.inl ⟨by rfl, ?_⟩) (by assumption) ?_
          rotate_left 1
          · intro w hSw
            try dsimp only at hSw
            go_simp
            try with_reducible rfl
          simp only [Act.put, List.setIfInBounds_toArray, List.set_cons_zero, List.set_cons_succ]
          refine wpAnyH_take (i := 7) (oi := ⟨some 43, _, _, _, _, _⟩) (v := ?_) rfl (by kernel_rfl) (by kernel_rfl) (by kernel_rfl) (fun _ _ _ h => h) (Or.inl ⟨by rfl, ?_⟩) (by assumption) ?_
          rotate_left 1
          · intro w hSw
            try dsimp only at hSw
            go_simp
            try with_reducible rfl
          simp only [Act.put, List.setIfInBounds_toArray, List.set_cons_zero, List.set_cons_succ]
          refine wpAnyH_take (i := 8) (oi := ⟨some 44, _, _, _, _, _⟩) (v := ?_) rfl (by kernel_rfl) (by kernel_rfl) (by kernel_rfl) (fun _ _ _ h => h) (Or.inl ⟨by rfl, ?_⟩) (by assumption) ?_
          rotate_left 1
          · intro w hSw
            try dsimp only at hSw
            go_simp
            try with_reducible rfl
          simp only [Act.put, List.setIfInBounds_toArray, List.set_cons_zero, List.set_cons_succ]
          refine wpAnyH_take (i := 9) (oi := ⟨some 45, _, _, _, _, _⟩) (v := ?_) rfl (by kernel_rfl) (by kernel_rfl) (by kernel_rfl) (fun _ _ _ h => h) (Or.inl ⟨by rfl, ?_⟩) (by assumption) ?_
          rotate_left 1
          · intro w hSw
            try dsimp only at hSw
            go_simp
            try with_reducible rfl
          simp only [Act.put, List.setIfInBounds_toArray, List.set_cons_zero, List.set_cons_succ]
          refine wpAnyH_take (i := 10) (oi := ⟨some 46, _, _, _, _, _⟩) (v := ?_) rfl (by kernel_rfl) (by kernel_rfl) (by kernel_rfl) (fun _ _ _ h => h) (Or.inl ⟨by rfl, ?_⟩) (by assumption) ?_
          rotate_left 1
          · intro w hSw
            try dsimp only at hSw
            go_simp
            try with_reducible rfl
          simp only [Act.put, List.setIfInBounds_toArray, List.set_cons_zero, List.set_cons_succ]
          refine wpAnyH_take (i := 11) (oi := ⟨some 47, _, _, _, _, _⟩) (v := ?_) rfl (by kernel_rfl) (by kernel_rfl) (by kernel_rfl) (fun _ _ _ h => h) (Or.inl ⟨by rfl, ?_⟩) (by assumption) ?_
          rotate_left 1
          · intro w hSw
            try dsimp only at hSw
            go_simp
            try with_reducible rfl
          simp only [Act.put, List.setIfInBounds_toArray, List.set_cons_zero, List.set_cons_succ]
          refine wpAnyH_take (i := 12) (oi := ⟨some 48, _, _, _, _, _⟩) (v := ?_) rfl (by kernel_rfl) (by kernel_rfl) (by kernel_rfl) (fun _ _ _ h => h) (Or.inl ⟨by rfl, ?_⟩) (by assumption) ?_
          rotate_left 1
          · intro w hSw
            try dsimp only at hSw
            go_simp
            try with_reducible rfl
          simp only [Act.put, List.setIfInBounds_toArray, List.set_cons_zero, List.set_cons_succ]
          refine wpAnyH_take (i := 13) (oi := ⟨some 49, _, _, _, _, _⟩) (v := ?_) rfl (by kernel_rfl) (by kernel_rfl) (by kernel_rfl) (fun _ _ _ h => h) (Or.inl ⟨by rfl, ?_⟩) (by assumption) ?_
          rotate_left 1
          · intro w hSw
            try dsimp only at hSw
            go_simp
            try with_reducible rfl
          simp only [Act.put, List.setIfInBounds_toArray, List.set_cons_zero, List.set_cons_succ]
          refine wpAnyH_take (i := 14) (oi := ⟨some 50, _, _, _, _, _⟩) (v := ?_) rfl (by kernel_rfl) (by kernel_rfl) (by kernel_rfl) (fun _ _ _ h => h) (Or.inl ⟨by rfl, ?_⟩) (by assumption) ?_
          rotate_left 1
          · intro w hSw
            try dsimp only at hSw
            go_simp
            try with_reducible rfl
          simp only [Act.put, List.setIfInBounds_toArray, List.set_cons_zero, List.set_cons_succ]
          refine wpAnyH_take (i := 15) (oi := ⟨some 51, _, _, _, _, _⟩) (v := ?_) rfl (by kernel_rfl) (by kernel_rfl) (by kernel_rfl) (fun _ _ _ h => h) (Or.inl ⟨by rfl, ?_⟩) (by assumption) ?_
          rotate_left 1
          · intro w hSw
            try dsimp only at hSw
            go_simp
            try with_reducible rfl
          simp only [Act.put, List.setIfInBounds_toArray, List.set_cons_zero, List.set_cons_succ]
          refine wpAnyH_take (i := 16) (oi := ⟨some 52, _, _, _, _, _⟩) (v := ?_) rfl (by kernel_rfl) (by kernel_rfl) (by kernel_rfl) (fun _ _ _ h => h) (Or.inl ⟨by rfl, ?_⟩) (by assumption) ?_
          rotate_left 1
          · intro w hSw
            try dsimp only at hSw
            go_simp
            try with_reducible rfl
          simp only [Act.put, List.setIfInBounds_toArray, List.set_cons_zero, List.set_cons_succ]
          refine wpAnyH_take (i := 17) (oi := ⟨some 53, _, _, _, _, _⟩) (v := ?_) rfl (by kernel_rfl) (by kernel_rfl) (by kernel_rfl) (fun _ _ _ h => h) (Or.inl ⟨by rfl, ?_⟩) (by assumption) ?_
          rotate_left 1
          · intro w hSw
            try dsimp only at hSw
            go_simp
            try with_reducible rfl
          simp only [Act.put, List.setIfInBounds_toArray, List.set_cons_zero, List.set_cons_succ]
          refine wpAnyH_take (i := 18) (oi := ⟨some 54, _, _, _, _, _⟩) (v := ?_) rfl (by kernel_rfl) (by kernel_rfl) (by kernel_rfl) (fun _ _ _ h => h) (Or.inl ⟨by rfl, ?_⟩) (by assumption) ?_
          rotate_left 1
          · intro w hSw
            try dsimp only at hSw
            go_simp
            try with_reducible rfl
          simp only [Act.put, List.setIfInBounds_toArray, List.set_cons_zero, List.set_cons_succ]
          refine wpAnyH_done (by kernel_rfl) ?_ _
          go_wp2_with fail
          go_meet
          exact ⟨by rw [Bool.not_not], hHeld.1⟩
    case rest =>
    obtain ⟨rfl, hcut4⟩ := hcut
    obtain ⟨w4, hw4⟩ : ∃ z, z = wc := ⟨_, rfl⟩
    subst hw4
    have HK4 := Lib.hid (HK3.out.later hcut4.out)
    have HX4 := Lib.hid (HX3.out.later hcut4.out HX3.out.lt)
    have HO4 := Lib.hid (HO3.out.later hcut4.out)
    have hsm := au_small Hau.out
    have Hsm : Hid (told.length ≤ 16 ∧ use.length ≤ 16 ∧ inc.length ≤ 16) := hsm
    clear hsm HK3 HX3 HO3 hcut4
    cases hr with
    | false =>
      obtain rfl : res = (⟨tr, ph, told, use, inc, moved⟩, 0) := Hr.out.trans (by rw [Hhr.out]; rfl)
      have y0 := HK4.out.2.2.free 0
      have y1 := HK4.out.2.2.free 1
      have y2 := HK4.out.2.2.free 2
      have y3 := HK4.out.2.2.free 3
      have y4 := HK4.out.2.2.free 4
      have y5 := HK4.out.2.2.free 5
      obtain ⟨z0, z1, z2, z3, z4, z5⟩ := au_cells HK4.out.2.2
      simp only at z0 z1 z2 z3 z4 z5
      obtain ⟨x0, x1, x2, x3, x4, x5⟩ := au_cells HX4.out
      simp only at x0 x1 x2 x3 x4 x5
      have HZn := Lib.hid (au6_whole (y := ⟨tr, ph, told, use, inc, moved⟩) (p := ⟨A1, M1, K1, A2, M2, K2, A3, M3, K3⟩) HK4.out.2.2)
      have HOn := Lib.hid (HO4.out.six Hs2.out ⟨tr, ph, told, use, inc, moved⟩ ⟨A1, M1, K1, A2, M2, K2, A3, M3, K3⟩)
      have hbn := au6_below (g := w.heap.size + 1 + 1 + 1) (y := ⟨tr, ph, told, use, inc, moved⟩) (p := ⟨A1, M1, K1, A2, M2, K2, A3, M3, K3⟩) HK4.out.1.1 (by omega)
      have Hbn := Lib.hid hbn
      clear hbn
      simp only [Bool.not_false]
      go_wp2_with fail
      obtain ⟨q0, q1, q2, q3, q4, q5⟩ := au_cells HZn.out
      simp only [au6] at q0 q1 q2 q3 q4 q5
      refine bodyPost_ret (v := .tuple #[auAt ⟨tr, ph, told, use, inc, moved⟩ ⟨A1, M1, K1, A2, M2, K2, A3, M3, K3⟩, .int .i64 0]) (by simp [results, Try.results12, go_sem, q0, q1, q2, q3, q4, q5]) rfl ⟨⟨A1, M1, K1, A2, M2, K2, A3, M3, K3⟩, rfl, ?_, ?_, ?_⟩
      · exact HOn.out.in (by have := Hsm.out; show told.length ≤ 1000000 ∧ use.length ≤ 1000000 ∧ inc.length ≤ 1000000; omega)
      · exact Hbn.out
      · intro g _ hg
        exact HOn.out.off (hg.imp (fun h => by have := Hs2.out; omega) id)
    | true =>
    simp only [Bool.not_true]
    have hnn : noneA ⟨tr, ph, told, use, inc, moved⟩ = false := by
      have h9 := Hhr.out
      unfold hearsA at h9
      cases h8 : noneA ⟨tr, ph, told, use, inc, moved⟩ with
      | false => rfl
      | true => rw [h8] at h9; cases h9
    have hrun : runsOk ⟨n, q, r, p, kk, cc⟩ tg ⟨tr, ph, told, use, inc, moved⟩ := Hau.out.2.2.resolve_left (of_decide_eq_false hnn)
    have hlen3 : (told.length : Int) = n ∧ (use.length : Int) = n ∧ (inc.length : Int) = n := ⟨hrun.2.2.1, hrun.2.2.2.1, hrun.2.2.2.2.1⟩
    have hfr : 0 ≤ fr ∧ fr < n := Hmo.out.2.1
    have hln : (rows.length : Int) = n := Hmo.out.1.2.1
    have hrm : rm = rows.length := HM.out.1
    obtain ⟨b9, off9, A9, C9, rfl, hbw9, r0, r1, r2, hN9⟩ := HM.out.2.1.at (k := fr.toNat) (show fr.toNat < rows.length by omega)
    obtain ⟨ri, Hri⟩ : ∃ z, Hid ((at_ rows fr.toNat).inc = z) := ⟨_, rfl⟩
    obtain ⟨ru, Hru⟩ : ∃ z, Hid ((at_ rows fr.toNat).use = z) := ⟨_, rfl⟩
    obtain ⟨lm, Hlm⟩ : ∃ z, Hid (z = (at_ rows fr.toNat).out.length) := ⟨_, rfl⟩
    rw [Hri.out] at r0
    rw [Hru.out] at r1
    rw [← Hlm.out] at r2
    have HRC : Hid (∀ w', Below w.heap.size w w' → w'.cell? ⟨b9, off9 + fr.toNat * 3, none⟩ = some (.int .i64 ri) ∧ w'.cell? ⟨b9, off9 + fr.toNat * 3 + 1, none⟩ = some (.int .i64 ru) ∧ w'.cell? ⟨b9, off9 + fr.toNat * 3 + 2, none⟩ = some (.slice A9 lm C9)) := fun w' h => ⟨cell_later h r0, cell_later h r1, cell_later h r2⟩
    obtain ⟨b2, o2, hbe2, -, u0⟩ := HA.out.2.1.2.at (i := fr.toNat) (show fr.toNat < use.length by omega)
    simp only at hbe2 u0
    subst hbe2
    obtain ⟨uw, Huw⟩ : ∃ z, Hid (use[fr.toNat]?.getD 0 = z) := ⟨_, rfl⟩
    rw [Huw.out] at u0
    have HUC : Hid (∀ w', Below w.heap.size w w' → w'.cell? ⟨b2, o2 + fr.toNat, none⟩ = some (.int .i64 uw)) := fun w' h => cell_later h u0
    have f0 : 0 ≤ fr := hfr.1
    have f1 : fr < (rm : Int) := by omega
    have hm2 : m2 = use.length := HA.out.2.1.1
    have f2 : fr < (m2 : Int) := by omega
    have g1 : fr < (M1 : Int) := by have h9 : M1 = told.length := HO4.out.1.1; omega
    have g2 : fr < (M2 : Int) := by have h9 : M2 = use.length := HO4.out.2.1.1; omega
    have g3 : fr < (M3 : Int) := by have h9 : M3 = inc.length := HO4.out.2.2.1.1; omega
    have Hf : Hid (fr.toNat < told.length ∧ fr.toNat < use.length ∧ fr.toNat < inc.length) := ⟨by omega, by omega, by omega⟩
    have Hph : Hid (ph = 1 ∨ ph = 2) := hrun.2.1
    have htold : toldA ⟨tr, ph, told, use, inc, moved⟩ ⟨fr, tg, clk, rows, mt, ma, mv, asks, try_, mph, echo⟩ = if ph = 1 then ⟨tr, ph, told.set fr.toNat true, use.set fr.toNat ru, inc, moved⟩ else ⟨tr, ph, told.set fr.toNat true, use, inc.set fr.toNat ri, moved || decide (ru ≠ uw)⟩ := by
      unfold toldA rowOf
      show (if ph = 1 then (⟨tr, ph, told.set fr.toNat true, use.set fr.toNat (at_ rows fr.toNat).use, inc, moved⟩ : Au) else ⟨tr, ph, told.set fr.toNat true, use, inc.set fr.toNat (at_ rows fr.toNat).inc, moved || decide ((at_ rows fr.toNat).use ≠ use[fr.toNat]?.getD 0)⟩) = _
      rw [Hri.out, Hru.out, Huw.out]
    have hres2 : res = ((if ph = 1 then ⟨tr, ph, told.set fr.toNat true, use.set fr.toNat ru, inc, moved⟩ else ⟨tr, ph, told.set fr.toNat true, use, inc.set fr.toNat ri, moved || decide (ru ≠ uw)⟩ : Au), 0) := Hr.out.trans (by rw [Hhr.out, ← htold]; rfl)
    have Hr2 := Lib.hid hres2
    clear hres2 htold Hr Hhr hrun hnn hlen3 hfr hln hrm hm2 r0 r1 r2 u0 hN9 hbw9 Hau Hmo
    rcases Hph.out with rfl | rfl
    · go_upto_region 6 with fail
      refine wp_region_each_at ?hm ?hb (fun a0 d a' w' => ∃ (e0 e1 e2 e3 e4 e5 e6 e7 e8 e9 e11 : Value) (gr : Nat), a' = putAll a0 [(56, e0), (57, e1), (58, e2), (59, e3), (60, e4), (61, e5), (62, e6), (63, e7), (64, e8), (12, e9), (13, e11)] ∧ Below w4.heap.size w4 w' ∧ (d 0 = true → e0 = (.pointer (some ⟨w.heap.size + 1 + 1, 3, none⟩))) ∧ (d 1 = true → e1 = (.slice (some ⟨b9, off9, none⟩) rm rcp)) ∧ (d 2 = true → e2 = (.int .i64 fr)) ∧ (d 3 = true → e3 = (.pointer (some ⟨b9, off9 + fr.toNat * 3, none⟩))) ∧ (d 4 = true → e4 = (.agg #[.int .i64 ri, .int .i64 ru, .slice A9 lm C9])) ∧ (d 5 = true → e5 = (.pointer (some ⟨w.heap.size + 1, 0, none⟩))) ∧ (d 6 = true → e6 = (.pointer (some ⟨w.heap.size + 1, 1, none⟩))) ∧ (d 7 = true → e7 = (.int .i64 1)) ∧ (d 8 = true → e8 = (.bool false)) ∧ (d 9 = true → (e9 = .pointer (some ⟨gr, 0, none⟩) ∧ w4.heap.size ≤ gr ∧ gr < w'.heap.size ∧ (d 10 = false → Whole w' gr 58 #[.int .i64 0, .int .i64 0, .slice none 0 0]))) ∧ (d 10 = true → (d 9 = true ∧ Whole w' gr 58 #[.int .i64 ri, .int .i64 ru, .slice A9 lm C9])) ∧ (d 11 = true → e11 = (.bool false))) ?h0 ?step ?ends
      case hm => kernel_rfl
      case hb => kernel_rfl
      case h0 =>
        refine ⟨undef, undef, undef, undef, undef, undef, undef, undef, undef, undef, undef, 0, ?_, (Below.refl _ _).drew, fun h => absurd h (by decide), fun h => absurd h (by decide), fun h => absurd h (by decide), fun h => absurd h (by decide), fun h => absurd h (by decide), fun h => absurd h (by decide), fun h => absurd h (by decide), fun h => absurd h (by decide), fun h => absurd h (by decide), fun h => absurd h (by decide), fun h => absurd h (by decide), fun h => absurd h (by decide)⟩
        simp only [putAll, Act.put, List.setIfInBounds_toArray, List.set_cons_zero, List.set_cons_succ]
      case step =>
        intro i d a' w' hi hJ hd hk
        obtain ⟨e0, e1, e2, e3, e4, e5, e6, e7, e8, e9, e11, gr, rfl, hC⟩ := hJ
        obtain ⟨hB, hC⟩ := hC
        obtain ⟨c0, hC⟩ := hC
        obtain ⟨c1, hC⟩ := hC
        obtain ⟨c2, hC⟩ := hC
        obtain ⟨c3, hC⟩ := hC
        obtain ⟨c4, hC⟩ := hC
        obtain ⟨c5, hC⟩ := hC
        obtain ⟨c6, hC⟩ := hC
        obtain ⟨c7, hC⟩ := hC
        obtain ⟨c8, hC⟩ := hC
        obtain ⟨c9, hC⟩ := hC
        obtain ⟨c10, hC⟩ := hC
        have c11 := hC
        clear hC
        match i, hi, hd, hk with
        | 0, _, hd, hk =>
          apply wpOp_at
          case ho => rfl
          intro K hK
          simp only [putAll, Act.put, List.setIfInBounds_toArray, List.set_cons_zero, List.set_cons_succ]
          go_simp
          refine hK _ _ ⟨(.pointer (some ⟨w.heap.size + 1 + 1, 3, none⟩)), e1, e2, e3, e4, e5, e6, e7, e8, e9, e11, gr, ?_, hB, fun _ => rfl, c1, c2, c3, c4, c5, c6, c7, c8, c9, c10, c11⟩
          simp only [putAll, Act.put, List.setIfInBounds_toArray, List.set_cons_zero, List.set_cons_succ]
        | 1, _, hd, hk =>
          have h0 : d 0 = true := hk 0 (by decide +kernel)
          obtain rfl := c0 h0
          obtain ⟨x0, x1, x2, x3, x4, x5, x6, x7, x8, x9, x10⟩ := ml_cells (HK4.out.later hB).2.1
          simp only at x0 x1 x2 x3 x4 x5 x6 x7 x8 x9 x10
          apply wpOp_at
          case ho => rfl
          intro K hK
          simp only [putAll, Act.put, List.setIfInBounds_toArray, List.set_cons_zero, List.set_cons_succ]
          go_simp
          refine hK _ _ ⟨(.pointer (some ⟨w.heap.size + 1 + 1, 3, none⟩)), (.slice (some ⟨b9, off9, none⟩) rm rcp), e2, e3, e4, e5, e6, e7, e8, e9, e11, gr, ?_, hB, c0, fun _ => rfl, c2, c3, c4, c5, c6, c7, c8, c9, c10, c11⟩
          simp only [putAll, Act.put, List.setIfInBounds_toArray, List.set_cons_zero, List.set_cons_succ]
        | 2, _, hd, hk =>
          apply wpOp_at
          case ho => rfl
          intro K hK
          simp only [putAll, Act.put, List.setIfInBounds_toArray, List.set_cons_zero, List.set_cons_succ]
          go_simp
          refine hK _ _ ⟨e0, e1, (.int .i64 fr), e3, e4, e5, e6, e7, e8, e9, e11, gr, ?_, hB, c0, c1, fun _ => rfl, c3, c4, c5, c6, c7, c8, c9, c10, c11⟩
          simp only [putAll, Act.put, List.setIfInBounds_toArray, List.set_cons_zero, List.set_cons_succ]
        | 3, _, hd, hk =>
          have h1 : d 1 = true := hk 1 (by decide +kernel)
          have h2 : d 2 = true := hk 2 (by decide +kernel)
          obtain rfl := c1 h1
          obtain rfl := c2 h2
          apply wpOp_at
          case ho => rfl
          intro K hK
          simp only [putAll, Act.put, List.setIfInBounds_toArray, List.set_cons_zero, List.set_cons_succ]
          go_simp
          refine hK _ _ ⟨e0, (.slice (some ⟨b9, off9, none⟩) rm rcp), (.int .i64 fr), (.pointer (some ⟨b9, off9 + fr.toNat * 3, none⟩)), e4, e5, e6, e7, e8, e9, e11, gr, ?_, hB, c0, c1, c2, fun _ => rfl, c4, c5, c6, c7, c8, c9, c10, c11⟩
          simp only [putAll, Act.put, List.setIfInBounds_toArray, List.set_cons_zero, List.set_cons_succ]
        | 4, _, hd, hk =>
          have h3 : d 3 = true := hk 3 (by decide +kernel)
          obtain rfl := c3 h3
          obtain ⟨z0, z1, z2⟩ := HRC.out _ (held_next HK4.out.1.1 hB)
          apply wpOp_at
          case ho => rfl
          intro K hK
          simp only [putAll, Act.put, List.setIfInBounds_toArray, List.set_cons_zero, List.set_cons_succ]
          go_simp
          refine hK _ _ ⟨e0, e1, e2, (.pointer (some ⟨b9, off9 + fr.toNat * 3, none⟩)), (.agg #[.int .i64 ri, .int .i64 ru, .slice A9 lm C9]), e5, e6, e7, e8, e9, e11, gr, ?_, hB, c0, c1, c2, c3, fun _ => rfl, c5, c6, c7, c8, c9, c10, c11⟩
          simp only [putAll, Act.put, List.setIfInBounds_toArray, List.set_cons_zero, List.set_cons_succ]
        | 5, _, hd, hk =>
          apply wpOp_at
          case ho => rfl
          intro K hK
          simp only [putAll, Act.put, List.setIfInBounds_toArray, List.set_cons_zero, List.set_cons_succ]
          go_simp
          refine hK _ _ ⟨e0, e1, e2, e3, e4, (.pointer (some ⟨w.heap.size + 1, 0, none⟩)), e6, e7, e8, e9, e11, gr, ?_, hB, c0, c1, c2, c3, c4, fun _ => rfl, c6, c7, c8, c9, c10, c11⟩
          simp only [putAll, Act.put, List.setIfInBounds_toArray, List.set_cons_zero, List.set_cons_succ]
        | 6, _, hd, hk =>
          have h5 : d 5 = true := hk 5 (by decide +kernel)
          obtain rfl := c5 h5
          apply wpOp_at
          case ho => rfl
          intro K hK
          simp only [putAll, Act.put, List.setIfInBounds_toArray, List.set_cons_zero, List.set_cons_succ]
          go_simp
          refine hK _ _ ⟨e0, e1, e2, e3, e4, (.pointer (some ⟨w.heap.size + 1, 0, none⟩)), (.pointer (some ⟨w.heap.size + 1, 1, none⟩)), e7, e8, e9, e11, gr, ?_, hB, c0, c1, c2, c3, c4, c5, fun _ => rfl, c7, c8, c9, c10, c11⟩
          simp only [putAll, Act.put, List.setIfInBounds_toArray, List.set_cons_zero, List.set_cons_succ]
        | 7, _, hd, hk =>
          have h6 : d 6 = true := hk 6 (by decide +kernel)
          obtain rfl := c6 h6
          obtain ⟨z0, z1, z2, z3, z4, z5⟩ := au_cells (HK4.out.later hB).1.2.2
          simp only at z0 z1 z2 z3 z4 z5
          apply wpOp_at
          case ho => rfl
          intro K hK
          simp only [putAll, Act.put, List.setIfInBounds_toArray, List.set_cons_zero, List.set_cons_succ]
          go_simp
          refine hK _ _ ⟨e0, e1, e2, e3, e4, e5, (.pointer (some ⟨w.heap.size + 1, 1, none⟩)), (.int .i64 1), e8, e9, e11, gr, ?_, hB, c0, c1, c2, c3, c4, c5, c6, fun _ => rfl, c8, c9, c10, c11⟩
          simp only [putAll, Act.put, List.setIfInBounds_toArray, List.set_cons_zero, List.set_cons_succ]
        | 8, _, hd, hk =>
          have h7 : d 7 = true := hk 7 (by decide +kernel)
          obtain rfl := c7 h7
          apply wpOp_at
          case ho => rfl
          intro K hK
          simp only [putAll, Act.put, List.setIfInBounds_toArray, List.set_cons_zero, List.set_cons_succ]
          go_simp
          refine hK _ _ ⟨e0, e1, e2, e3, e4, e5, e6, (.int .i64 1), (.bool false), e9, e11, gr, ?_, hB, c0, c1, c2, c3, c4, c5, c6, c7, fun _ => rfl, c9, c10, c11⟩
          simp only [putAll, Act.put, List.setIfInBounds_toArray, List.set_cons_zero, List.set_cons_succ]
        | 9, _, hd, hk =>
          have hb := below_box w' (.cells #[.int .i64 0, .int .i64 0, .slice none 0 0] 58)
          apply wpOp_at
          case ho => rfl
          intro K hK
          simp only [putAll, Act.put, List.setIfInBounds_toArray, List.set_cons_zero, List.set_cons_succ]
          go_simp
          refine hK _ _ ⟨e0, e1, e2, e3, e4, e5, e6, e7, e8, .pointer (some ⟨w'.heap.size, 0, none⟩), e11, w'.heap.size, ?_, hB.trans (hb.mono hB.size), c0, c1, c2, c3, c4, c5, c6, c7, c8, fun _ => ⟨rfl, hB.size, by simp, fun _ => Whole.made w' _ _⟩, fun h => Bool.noConfusion (hd.symm.trans (c10 h).1), c11⟩
          simp only [putAll, Act.put, List.setIfInBounds_toArray, List.set_cons_zero, List.set_cons_succ]
        | 10, _, hd, hk =>
          have h0 : d 0 = true := hk 0 (by decide +kernel)
          have h1 : d 1 = true := hk 1 (by decide +kernel)
          have h2 : d 2 = true := hk 2 (by decide +kernel)
          have h3 : d 3 = true := hk 3 (by decide +kernel)
          have h4 : d 4 = true := hk 4 (by decide +kernel)
          have h9 : d 9 = true := hk 9 (by decide +kernel)
          obtain rfl := c0 h0
          obtain rfl := c1 h1
          obtain rfl := c2 h2
          obtain rfl := c3 h3
          obtain rfl := c4 h4
          obtain ⟨rfl, hg1, hg2, hw0⟩ := c9 h9
          have hZ := hw0 hd
          have y0 := hZ.free 0
          have y1 := hZ.free 1
          have y2 := hZ.free 2
          obtain ⟨z0, z1, z2⟩ := row_cells hZ
          have hX := ((hZ.set 0 (.int .i64 ri)).set 1 (.int .i64 ru)).set 2 (.slice A9 lm C9)
          have qb := ((hB.setCell (p := ⟨gr, 0, none⟩) hg1 (.int .i64 ri)).setCell (p := ⟨gr, 1, none⟩) hg1 (.int .i64 ru)).setCell (p := ⟨gr, 2, none⟩) hg1 (.slice A9 lm C9)
          apply wpOp_at
          case ho => rfl
          intro K hK
          simp only [putAll, Act.put, List.setIfInBounds_toArray, List.set_cons_zero, List.set_cons_succ]
          go_simp
          refine hK _ _ ⟨(.pointer (some ⟨w.heap.size + 1 + 1, 3, none⟩)), (.slice (some ⟨b9, off9, none⟩) rm rcp), (.int .i64 fr), (.pointer (some ⟨b9, off9 + fr.toNat * 3, none⟩)), (.agg #[.int .i64 ri, .int .i64 ru, .slice A9 lm C9]), e5, e6, e7, e8, .pointer (some ⟨gr, 0, none⟩), e11, gr, ?_, qb, c0, c1, c2, c3, c4, c5, c6, c7, c8, fun _ => ⟨rfl, hg1, by simpa using hg2, fun h => Bool.noConfusion (show true = false from h)⟩, fun _ => ⟨h9, hX⟩, c11⟩
          simp only [putAll, Act.put, List.setIfInBounds_toArray, List.set_cons_zero, List.set_cons_succ]
        | 11, _, hd, hk =>
          have h8 : d 8 = true := hk 8 (by decide +kernel)
          obtain rfl := c8 h8
          apply wpOp_at
          case ho => rfl
          intro K hK
          simp only [putAll, Act.put, List.setIfInBounds_toArray, List.set_cons_zero, List.set_cons_succ]
          go_simp
          refine hK _ _ ⟨e0, e1, e2, e3, e4, e5, e6, e7, (.bool false), e9, (.bool false), gr, ?_, hB, c0, c1, c2, c3, c4, c5, c6, c7, c8, c9, c10, fun _ => rfl⟩
          simp only [putAll, Act.put, List.setIfInBounds_toArray, List.set_cons_zero, List.set_cons_succ]
        | k + 12, hi, _, _ => exact absurd hi (by simp)
      case ends =>
        intro d a' w5 hJ hall
        obtain ⟨e0, e1, e2, e3, e4, e5, e6, e7, e8, e9, e11, gr, rfl, hC⟩ := hJ
        obtain ⟨hB, hC⟩ := hC
        obtain ⟨c0, hC⟩ := hC
        obtain ⟨c1, hC⟩ := hC
        obtain ⟨c2, hC⟩ := hC
        obtain ⟨c3, hC⟩ := hC
        obtain ⟨c4, hC⟩ := hC
        obtain ⟨c5, hC⟩ := hC
        obtain ⟨c6, hC⟩ := hC
        obtain ⟨c7, hC⟩ := hC
        obtain ⟨c8, hC⟩ := hC
        obtain ⟨c9, hC⟩ := hC
        obtain ⟨c10, hC⟩ := hC
        have c11 := hC
        clear hC
        obtain ⟨h9, hX⟩ := c10 (hall 10 (by decide +kernel))
        obtain ⟨rfl, hg1, hg2, -⟩ := c9 h9
        obtain rfl := c0 (hall 0 (by decide +kernel))
        obtain rfl := c1 (hall 1 (by decide +kernel))
        obtain rfl := c2 (hall 2 (by decide +kernel))
        obtain rfl := c3 (hall 3 (by decide +kernel))
        obtain rfl := c4 (hall 4 (by decide +kernel))
        obtain rfl := c5 (hall 5 (by decide +kernel))
        obtain rfl := c6 (hall 6 (by decide +kernel))
        obtain rfl := c7 (hall 7 (by decide +kernel))
        obtain rfl := c8 (hall 8 (by decide +kernel))
        obtain rfl := c11 (hall 11 (by decide +kernel))
        have HO5 : Hid (OutA w w2.heap.size gb gr #[.int .i64 ri, .int .i64 ru, .slice A9 lm C9] ⟨A1, M1, K1, A2, M2, K2, A3, M3, K3⟩ ⟨tr, 1, told, use, inc, moved⟩ w5) := by
          have hs2 := Hs2.out
          have hgb := Hgb.out
          have hlt := HX4.out.lt
          have hsz := HK4.out.2.2.lt
          exact ⟨held_next HK4.out.1.1 hB, HK4.out.2.2.later hB HK4.out.2.2.lt, hX, HX4.out.later hB HX4.out.lt, HO4.out.later hB, Hof.out, HO4.out.off (Or.inr hg1), by omega, hs2, by omega, by omega⟩
        have HK5 := Lib.hid (HK4.out.later hB)
        clear c0 c1 c2 c3 c4 c5 c6 c7 c8 c9 c10 c11 hall hX hB h9 hg1 hg2
        simp only [putAll, Act.put, List.setIfInBounds_toArray, List.set_cons_zero, List.set_cons_succ]
        obtain rfl : res = ((⟨tr, 1, told.set fr.toNat true, use.set fr.toNat ru, inc, moved⟩ : Au), 0) := Hr2.out.trans (by rw [if_pos rfl])
        go_upto_region 7 with fail
        go_cut [65] from 65 to 76 (fun s65 wx => s65 = .bool false ∧ Hid (OutA w w2.heap.size gb gr #[.int .i64 ri, .int .i64 ru, .slice A9 lm C9] ⟨A1, M1, K1, A2, M2, K2, A3, M3, K3⟩ ⟨tr, 1, told, use, inc, moved⟩ wx))
        case first =>
          go_quiet (fail)
          go_wp2_with fail
          go_meet
          exact ⟨by rfl, HO5.out.later (below_drewN (Below.refl _ _) _)⟩
        case rest =>
        obtain ⟨rfl, hcut6⟩ := hcut
        obtain ⟨w6, hw6⟩ : ∃ z, z = wc := ⟨_, rfl⟩
        subst hw6
        have HO6 := hcut6
        clear hcut6 HO5 HK5 HK4 HX4 HO4
        obtain ⟨s0_0, s0_1, s0_2, s0_3, s0_4, s0_5⟩ := au_cells HO6.out.2.2.2.1
        simp only at s0_0 s0_1 s0_2 s0_3 s0_4 s0_5
        obtain ⟨r0_0, r0_1, r0_2⟩ := row_cells HO6.out.2.2.1
        obtain ⟨bb1, hp1, fz1, fc1, ho1⟩ := HO6.out.use (i := fr.toNat) (by have := Hf.out; omega) ru
        obtain rfl : A2 = some ⟨bb1, 0, none⟩ := hp1
        have HO7 := Lib.hid ho1
        clear ho1
        obtain ⟨s1_0, s1_1, s1_2, s1_3, s1_4, s1_5⟩ := au_cells HO7.out.2.2.2.1
        simp only at s1_0 s1_1 s1_2 s1_3 s1_4 s1_5
        obtain ⟨r1_0, r1_1, r1_2⟩ := row_cells HO7.out.2.2.1
        obtain ⟨bb2, hp2, fz2, fc2, ho2⟩ := HO7.out.told (i := fr.toNat) (by have := Hf.out; omega) true
        obtain rfl : A1 = some ⟨bb2, 0, none⟩ := hp2
        have HO8 := Lib.hid ho2
        clear ho2
        obtain ⟨s2_0, s2_1, s2_2, s2_3, s2_4, s2_5⟩ := au_cells HO8.out.2.2.2.1
        simp only at s2_0 s2_1 s2_2 s2_3 s2_4 s2_5
        obtain ⟨r2_0, r2_1, r2_2⟩ := row_cells HO8.out.2.2.1
        have hdone := HO8.out.done (by have := Hsm.out; simp only [List.length_set]; omega)
        have HDn := Lib.hid hdone
        clear hdone
        have y0 := HO8.out.2.1.free 0
        have y1 := HO8.out.2.1.free 1
        have y2 := HO8.out.2.1.free 2
        have y3 := HO8.out.2.1.free 3
        have y4 := HO8.out.2.1.free 4
        have y5 := HO8.out.2.1.free 5
        obtain ⟨z0, z1, z2, z3, z4, z5⟩ := au_cells HO8.out.2.1
        simp only at z0 z1 z2 z3 z4 z5
        go_wp2_with fail
        obtain ⟨q0, q1, q2, q3, q4, q5⟩ := au_cells HDn.out.1
        simp only [au6] at q0 q1 q2 q3 q4 q5
        refine bodyPost_ret (v := .tuple #[auAt ⟨tr, 1, told.set fr.toNat true, use.set fr.toNat ru, inc, moved⟩ ⟨some ⟨bb2, 0, none⟩, M1, K1, some ⟨bb1, 0, none⟩, M2, K2, A3, M3, K3⟩, .int .i64 0]) (by simp [results, Try.results12, go_sem, q0, q1, q2, q3, q4, q5]) rfl ⟨⟨some ⟨bb2, 0, none⟩, M1, K1, some ⟨bb1, 0, none⟩, M2, K2, A3, M3, K3⟩, rfl, HDn.out.2.1, HDn.out.2.2.1, fun g _ hg => HDn.out.2.2.2 g hg⟩
    · go_upto_region 6 with fail
      refine wp_region_each_at ?hm ?hb (fun a0 d a' w' => ∃ (e0 e1 e2 e3 e4 e5 e6 e7 e8 e9 e11 : Value) (gr : Nat), a' = putAll a0 [(56, e0), (57, e1), (58, e2), (59, e3), (60, e4), (61, e5), (62, e6), (63, e7), (64, e8), (12, e9), (13, e11)] ∧ Below w4.heap.size w4 w' ∧ (d 0 = true → e0 = (.pointer (some ⟨w.heap.size + 1 + 1, 3, none⟩))) ∧ (d 1 = true → e1 = (.slice (some ⟨b9, off9, none⟩) rm rcp)) ∧ (d 2 = true → e2 = (.int .i64 fr)) ∧ (d 3 = true → e3 = (.pointer (some ⟨b9, off9 + fr.toNat * 3, none⟩))) ∧ (d 4 = true → e4 = (.agg #[.int .i64 ri, .int .i64 ru, .slice A9 lm C9])) ∧ (d 5 = true → e5 = (.pointer (some ⟨w.heap.size + 1, 0, none⟩))) ∧ (d 6 = true → e6 = (.pointer (some ⟨w.heap.size + 1, 1, none⟩))) ∧ (d 7 = true → e7 = (.int .i64 2)) ∧ (d 8 = true → e8 = (.bool true)) ∧ (d 9 = true → (e9 = .pointer (some ⟨gr, 0, none⟩) ∧ w4.heap.size ≤ gr ∧ gr < w'.heap.size ∧ (d 10 = false → Whole w' gr 58 #[.int .i64 0, .int .i64 0, .slice none 0 0]))) ∧ (d 10 = true → (d 9 = true ∧ Whole w' gr 58 #[.int .i64 ri, .int .i64 ru, .slice A9 lm C9])) ∧ (d 11 = true → e11 = (.bool true))) ?h0 ?step ?ends
      case hm => kernel_rfl
      case hb => kernel_rfl
      case h0 =>
        refine ⟨undef, undef, undef, undef, undef, undef, undef, undef, undef, undef, undef, 0, ?_, (Below.refl _ _).drew, fun h => absurd h (by decide), fun h => absurd h (by decide), fun h => absurd h (by decide), fun h => absurd h (by decide), fun h => absurd h (by decide), fun h => absurd h (by decide), fun h => absurd h (by decide), fun h => absurd h (by decide), fun h => absurd h (by decide), fun h => absurd h (by decide), fun h => absurd h (by decide), fun h => absurd h (by decide)⟩
        simp only [putAll, Act.put, List.setIfInBounds_toArray, List.set_cons_zero, List.set_cons_succ]
      case step =>
        intro i d a' w' hi hJ hd hk
        obtain ⟨e0, e1, e2, e3, e4, e5, e6, e7, e8, e9, e11, gr, rfl, hC⟩ := hJ
        obtain ⟨hB, hC⟩ := hC
        obtain ⟨c0, hC⟩ := hC
        obtain ⟨c1, hC⟩ := hC
        obtain ⟨c2, hC⟩ := hC
        obtain ⟨c3, hC⟩ := hC
        obtain ⟨c4, hC⟩ := hC
        obtain ⟨c5, hC⟩ := hC
        obtain ⟨c6, hC⟩ := hC
        obtain ⟨c7, hC⟩ := hC
        obtain ⟨c8, hC⟩ := hC
        obtain ⟨c9, hC⟩ := hC
        obtain ⟨c10, hC⟩ := hC
        have c11 := hC
        clear hC
        match i, hi, hd, hk with
        | 0, _, hd, hk =>
          apply wpOp_at
          case ho => rfl
          intro K hK
          simp only [putAll, Act.put, List.setIfInBounds_toArray, List.set_cons_zero, List.set_cons_succ]
          go_simp
          refine hK _ _ ⟨(.pointer (some ⟨w.heap.size + 1 + 1, 3, none⟩)), e1, e2, e3, e4, e5, e6, e7, e8, e9, e11, gr, ?_, hB, fun _ => rfl, c1, c2, c3, c4, c5, c6, c7, c8, c9, c10, c11⟩
          simp only [putAll, Act.put, List.setIfInBounds_toArray, List.set_cons_zero, List.set_cons_succ]
        | 1, _, hd, hk =>
          have h0 : d 0 = true := hk 0 (by decide +kernel)
          obtain rfl := c0 h0
          obtain ⟨x0, x1, x2, x3, x4, x5, x6, x7, x8, x9, x10⟩ := ml_cells (HK4.out.later hB).2.1
          simp only at x0 x1 x2 x3 x4 x5 x6 x7 x8 x9 x10
          apply wpOp_at
          case ho => rfl
          intro K hK
          simp only [putAll, Act.put, List.setIfInBounds_toArray, List.set_cons_zero, List.set_cons_succ]
          go_simp
          refine hK _ _ ⟨(.pointer (some ⟨w.heap.size + 1 + 1, 3, none⟩)), (.slice (some ⟨b9, off9, none⟩) rm rcp), e2, e3, e4, e5, e6, e7, e8, e9, e11, gr, ?_, hB, c0, fun _ => rfl, c2, c3, c4, c5, c6, c7, c8, c9, c10, c11⟩
          simp only [putAll, Act.put, List.setIfInBounds_toArray, List.set_cons_zero, List.set_cons_succ]
        | 2, _, hd, hk =>
          apply wpOp_at
          case ho => rfl
          intro K hK
          simp only [putAll, Act.put, List.setIfInBounds_toArray, List.set_cons_zero, List.set_cons_succ]
          go_simp
          refine hK _ _ ⟨e0, e1, (.int .i64 fr), e3, e4, e5, e6, e7, e8, e9, e11, gr, ?_, hB, c0, c1, fun _ => rfl, c3, c4, c5, c6, c7, c8, c9, c10, c11⟩
          simp only [putAll, Act.put, List.setIfInBounds_toArray, List.set_cons_zero, List.set_cons_succ]
        | 3, _, hd, hk =>
          have h1 : d 1 = true := hk 1 (by decide +kernel)
          have h2 : d 2 = true := hk 2 (by decide +kernel)
          obtain rfl := c1 h1
          obtain rfl := c2 h2
          apply wpOp_at
          case ho => rfl
          intro K hK
          simp only [putAll, Act.put, List.setIfInBounds_toArray, List.set_cons_zero, List.set_cons_succ]
          go_simp
          refine hK _ _ ⟨e0, (.slice (some ⟨b9, off9, none⟩) rm rcp), (.int .i64 fr), (.pointer (some ⟨b9, off9 + fr.toNat * 3, none⟩)), e4, e5, e6, e7, e8, e9, e11, gr, ?_, hB, c0, c1, c2, fun _ => rfl, c4, c5, c6, c7, c8, c9, c10, c11⟩
          simp only [putAll, Act.put, List.setIfInBounds_toArray, List.set_cons_zero, List.set_cons_succ]
        | 4, _, hd, hk =>
          have h3 : d 3 = true := hk 3 (by decide +kernel)
          obtain rfl := c3 h3
          obtain ⟨z0, z1, z2⟩ := HRC.out _ (held_next HK4.out.1.1 hB)
          apply wpOp_at
          case ho => rfl
          intro K hK
          simp only [putAll, Act.put, List.setIfInBounds_toArray, List.set_cons_zero, List.set_cons_succ]
          go_simp
          refine hK _ _ ⟨e0, e1, e2, (.pointer (some ⟨b9, off9 + fr.toNat * 3, none⟩)), (.agg #[.int .i64 ri, .int .i64 ru, .slice A9 lm C9]), e5, e6, e7, e8, e9, e11, gr, ?_, hB, c0, c1, c2, c3, fun _ => rfl, c5, c6, c7, c8, c9, c10, c11⟩
          simp only [putAll, Act.put, List.setIfInBounds_toArray, List.set_cons_zero, List.set_cons_succ]
        | 5, _, hd, hk =>
          apply wpOp_at
          case ho => rfl
          intro K hK
          simp only [putAll, Act.put, List.setIfInBounds_toArray, List.set_cons_zero, List.set_cons_succ]
          go_simp
          refine hK _ _ ⟨e0, e1, e2, e3, e4, (.pointer (some ⟨w.heap.size + 1, 0, none⟩)), e6, e7, e8, e9, e11, gr, ?_, hB, c0, c1, c2, c3, c4, fun _ => rfl, c6, c7, c8, c9, c10, c11⟩
          simp only [putAll, Act.put, List.setIfInBounds_toArray, List.set_cons_zero, List.set_cons_succ]
        | 6, _, hd, hk =>
          have h5 : d 5 = true := hk 5 (by decide +kernel)
          obtain rfl := c5 h5
          apply wpOp_at
          case ho => rfl
          intro K hK
          simp only [putAll, Act.put, List.setIfInBounds_toArray, List.set_cons_zero, List.set_cons_succ]
          go_simp
          refine hK _ _ ⟨e0, e1, e2, e3, e4, (.pointer (some ⟨w.heap.size + 1, 0, none⟩)), (.pointer (some ⟨w.heap.size + 1, 1, none⟩)), e7, e8, e9, e11, gr, ?_, hB, c0, c1, c2, c3, c4, c5, fun _ => rfl, c7, c8, c9, c10, c11⟩
          simp only [putAll, Act.put, List.setIfInBounds_toArray, List.set_cons_zero, List.set_cons_succ]
        | 7, _, hd, hk =>
          have h6 : d 6 = true := hk 6 (by decide +kernel)
          obtain rfl := c6 h6
          obtain ⟨z0, z1, z2, z3, z4, z5⟩ := au_cells (HK4.out.later hB).1.2.2
          simp only at z0 z1 z2 z3 z4 z5
          apply wpOp_at
          case ho => rfl
          intro K hK
          simp only [putAll, Act.put, List.setIfInBounds_toArray, List.set_cons_zero, List.set_cons_succ]
          go_simp
          refine hK _ _ ⟨e0, e1, e2, e3, e4, e5, (.pointer (some ⟨w.heap.size + 1, 1, none⟩)), (.int .i64 2), e8, e9, e11, gr, ?_, hB, c0, c1, c2, c3, c4, c5, c6, fun _ => rfl, c8, c9, c10, c11⟩
          simp only [putAll, Act.put, List.setIfInBounds_toArray, List.set_cons_zero, List.set_cons_succ]
        | 8, _, hd, hk =>
          have h7 : d 7 = true := hk 7 (by decide +kernel)
          obtain rfl := c7 h7
          apply wpOp_at
          case ho => rfl
          intro K hK
          simp only [putAll, Act.put, List.setIfInBounds_toArray, List.set_cons_zero, List.set_cons_succ]
          go_simp
          refine hK _ _ ⟨e0, e1, e2, e3, e4, e5, e6, (.int .i64 2), (.bool true), e9, e11, gr, ?_, hB, c0, c1, c2, c3, c4, c5, c6, c7, fun _ => rfl, c9, c10, c11⟩
          simp only [putAll, Act.put, List.setIfInBounds_toArray, List.set_cons_zero, List.set_cons_succ]
        | 9, _, hd, hk =>
          have hb := below_box w' (.cells #[.int .i64 0, .int .i64 0, .slice none 0 0] 58)
          apply wpOp_at
          case ho => rfl
          intro K hK
          simp only [putAll, Act.put, List.setIfInBounds_toArray, List.set_cons_zero, List.set_cons_succ]
          go_simp
          refine hK _ _ ⟨e0, e1, e2, e3, e4, e5, e6, e7, e8, .pointer (some ⟨w'.heap.size, 0, none⟩), e11, w'.heap.size, ?_, hB.trans (hb.mono hB.size), c0, c1, c2, c3, c4, c5, c6, c7, c8, fun _ => ⟨rfl, hB.size, by simp, fun _ => Whole.made w' _ _⟩, fun h => Bool.noConfusion (hd.symm.trans (c10 h).1), c11⟩
          simp only [putAll, Act.put, List.setIfInBounds_toArray, List.set_cons_zero, List.set_cons_succ]
        | 10, _, hd, hk =>
          have h0 : d 0 = true := hk 0 (by decide +kernel)
          have h1 : d 1 = true := hk 1 (by decide +kernel)
          have h2 : d 2 = true := hk 2 (by decide +kernel)
          have h3 : d 3 = true := hk 3 (by decide +kernel)
          have h4 : d 4 = true := hk 4 (by decide +kernel)
          have h9 : d 9 = true := hk 9 (by decide +kernel)
          obtain rfl := c0 h0
          obtain rfl := c1 h1
          obtain rfl := c2 h2
          obtain rfl := c3 h3
          obtain rfl := c4 h4
          obtain ⟨rfl, hg1, hg2, hw0⟩ := c9 h9
          have hZ := hw0 hd
          have y0 := hZ.free 0
          have y1 := hZ.free 1
          have y2 := hZ.free 2
          obtain ⟨z0, z1, z2⟩ := row_cells hZ
          have hX := ((hZ.set 0 (.int .i64 ri)).set 1 (.int .i64 ru)).set 2 (.slice A9 lm C9)
          have qb := ((hB.setCell (p := ⟨gr, 0, none⟩) hg1 (.int .i64 ri)).setCell (p := ⟨gr, 1, none⟩) hg1 (.int .i64 ru)).setCell (p := ⟨gr, 2, none⟩) hg1 (.slice A9 lm C9)
          apply wpOp_at
          case ho => rfl
          intro K hK
          simp only [putAll, Act.put, List.setIfInBounds_toArray, List.set_cons_zero, List.set_cons_succ]
          go_simp
          refine hK _ _ ⟨(.pointer (some ⟨w.heap.size + 1 + 1, 3, none⟩)), (.slice (some ⟨b9, off9, none⟩) rm rcp), (.int .i64 fr), (.pointer (some ⟨b9, off9 + fr.toNat * 3, none⟩)), (.agg #[.int .i64 ri, .int .i64 ru, .slice A9 lm C9]), e5, e6, e7, e8, .pointer (some ⟨gr, 0, none⟩), e11, gr, ?_, qb, c0, c1, c2, c3, c4, c5, c6, c7, c8, fun _ => ⟨rfl, hg1, by simpa using hg2, fun h => Bool.noConfusion (show true = false from h)⟩, fun _ => ⟨h9, hX⟩, c11⟩
          simp only [putAll, Act.put, List.setIfInBounds_toArray, List.set_cons_zero, List.set_cons_succ]
        | 11, _, hd, hk =>
          have h8 : d 8 = true := hk 8 (by decide +kernel)
          obtain rfl := c8 h8
          apply wpOp_at
          case ho => rfl
          intro K hK
          simp only [putAll, Act.put, List.setIfInBounds_toArray, List.set_cons_zero, List.set_cons_succ]
          go_simp
          refine hK _ _ ⟨e0, e1, e2, e3, e4, e5, e6, e7, (.bool true), e9, (.bool true), gr, ?_, hB, c0, c1, c2, c3, c4, c5, c6, c7, c8, c9, c10, fun _ => rfl⟩
          simp only [putAll, Act.put, List.setIfInBounds_toArray, List.set_cons_zero, List.set_cons_succ]
        | k + 12, hi, _, _ => exact absurd hi (by simp)
      case ends =>
        intro d a' w5 hJ hall
        obtain ⟨e0, e1, e2, e3, e4, e5, e6, e7, e8, e9, e11, gr, rfl, hC⟩ := hJ
        obtain ⟨hB, hC⟩ := hC
        obtain ⟨c0, hC⟩ := hC
        obtain ⟨c1, hC⟩ := hC
        obtain ⟨c2, hC⟩ := hC
        obtain ⟨c3, hC⟩ := hC
        obtain ⟨c4, hC⟩ := hC
        obtain ⟨c5, hC⟩ := hC
        obtain ⟨c6, hC⟩ := hC
        obtain ⟨c7, hC⟩ := hC
        obtain ⟨c8, hC⟩ := hC
        obtain ⟨c9, hC⟩ := hC
        obtain ⟨c10, hC⟩ := hC
        have c11 := hC
        clear hC
        obtain ⟨h9, hX⟩ := c10 (hall 10 (by decide +kernel))
        obtain ⟨rfl, hg1, hg2, -⟩ := c9 h9
        obtain rfl := c0 (hall 0 (by decide +kernel))
        obtain rfl := c1 (hall 1 (by decide +kernel))
        obtain rfl := c2 (hall 2 (by decide +kernel))
        obtain rfl := c3 (hall 3 (by decide +kernel))
        obtain rfl := c4 (hall 4 (by decide +kernel))
        obtain rfl := c5 (hall 5 (by decide +kernel))
        obtain rfl := c6 (hall 6 (by decide +kernel))
        obtain rfl := c7 (hall 7 (by decide +kernel))
        obtain rfl := c8 (hall 8 (by decide +kernel))
        obtain rfl := c11 (hall 11 (by decide +kernel))
        have HO5 : Hid (OutA w w2.heap.size gb gr #[.int .i64 ri, .int .i64 ru, .slice A9 lm C9] ⟨A1, M1, K1, A2, M2, K2, A3, M3, K3⟩ ⟨tr, 2, told, use, inc, moved⟩ w5) := by
          have hs2 := Hs2.out
          have hgb := Hgb.out
          have hlt := HX4.out.lt
          have hsz := HK4.out.2.2.lt
          exact ⟨held_next HK4.out.1.1 hB, HK4.out.2.2.later hB HK4.out.2.2.lt, hX, HX4.out.later hB HX4.out.lt, HO4.out.later hB, Hof.out, HO4.out.off (Or.inr hg1), by omega, hs2, by omega, by omega⟩
        have HK5 := Lib.hid (HK4.out.later hB)
        clear c0 c1 c2 c3 c4 c5 c6 c7 c8 c9 c10 c11 hall hX hB h9 hg1 hg2
        simp only [putAll, Act.put, List.setIfInBounds_toArray, List.set_cons_zero, List.set_cons_succ]
        go_upto_region 7 with fail
        go_cut [65] from 65 to 76 (fun s65 wx => s65 = .bool (decide (ru ≠ uw)) ∧ Hid (OutA w w2.heap.size gb gr #[.int .i64 ri, .int .i64 ru, .slice A9 lm C9] ⟨A1, M1, K1, A2, M2, K2, A3, M3, K3⟩ ⟨tr, 2, told, use, inc, moved⟩ wx))
        case first =>
          obtain ⟨x0, x1, x2, x3, x4, x5⟩ := au_cells HK5.out.1.2.2
          simp only at x0 x1 x2 x3 x4 x5
          have u9 := HUC.out _ HK5.out.1.1
          obtain ⟨v0, v1, v2⟩ := row_cells HO5.out.2.2.1
          by_cases hru : ru = uw
          · have hru' : (ru != uw) = false := by simp [hru]
            have hdd : decide (ru ≠ uw) = false := decide_eq_false (fun h => h hru)
            have Hdd := Lib.hid hdd
            clear hru hdd
            go_quiet (fail)
            go_wp2_with fail
            go_meet
            exact ⟨by rw [Hdd.out], HO5.out.later (below_drewN (Below.refl _ _) _)⟩
          · have hru' : (ru != uw) = true := bne_iff_ne.2 hru
            have hdd : decide (ru ≠ uw) = true := decide_eq_true hru
            have Hdd := Lib.hid hdd
            clear hru hdd
            go_quiet (fail)
            go_wp2_with fail
            go_meet
            exact ⟨by rw [Hdd.out], HO5.out.later (below_drewN (Below.refl _ _) _)⟩
        case rest =>
        obtain ⟨rfl, hcut6⟩ := hcut
        obtain ⟨w6, hw6⟩ : ∃ z, z = wc := ⟨_, rfl⟩
        subst hw6
        have HO6 := hcut6
        clear hcut6 HO5 HK5 HK4 HX4 HO4
        obtain ⟨mvd, Hmvd⟩ : ∃ z, Hid (decide (ru ≠ uw) = z) := ⟨_, rfl⟩
        rw [Hmvd.out]
        cases mvd with
        | true =>
          obtain rfl : res = ((⟨tr, 2, told.set fr.toNat true, use, inc.set fr.toNat ri, true⟩ : Au), 0) := Hr2.out.trans (by rw [if_neg (by decide), Hmvd.out, Bool.or_true])
          obtain ⟨s0_0, s0_1, s0_2, s0_3, s0_4, s0_5⟩ := au_cells HO6.out.2.2.2.1
          simp only at s0_0 s0_1 s0_2 s0_3 s0_4 s0_5
          obtain ⟨r0_0, r0_1, r0_2⟩ := row_cells HO6.out.2.2.1
          have fz1 := HO6.out.2.2.2.1.free 5
          have HO7 := Lib.hid HO6.out.flag
          obtain ⟨s1_0, s1_1, s1_2, s1_3, s1_4, s1_5⟩ := au_cells HO7.out.2.2.2.1
          simp only at s1_0 s1_1 s1_2 s1_3 s1_4 s1_5
          obtain ⟨r1_0, r1_1, r1_2⟩ := row_cells HO7.out.2.2.1
          obtain ⟨bb2, hp2, fz2, fc2, ho2⟩ := HO7.out.inc (i := fr.toNat) (by have := Hf.out; omega) ri
          obtain rfl : A3 = some ⟨bb2, 0, none⟩ := hp2
          have HO8 := Lib.hid ho2
          clear ho2
          obtain ⟨s2_0, s2_1, s2_2, s2_3, s2_4, s2_5⟩ := au_cells HO8.out.2.2.2.1
          simp only at s2_0 s2_1 s2_2 s2_3 s2_4 s2_5
          obtain ⟨r2_0, r2_1, r2_2⟩ := row_cells HO8.out.2.2.1
          obtain ⟨bb3, hp3, fz3, fc3, ho3⟩ := HO8.out.told (i := fr.toNat) (by have := Hf.out; omega) true
          obtain rfl : A1 = some ⟨bb3, 0, none⟩ := hp3
          have HO9 := Lib.hid ho3
          clear ho3
          obtain ⟨s3_0, s3_1, s3_2, s3_3, s3_4, s3_5⟩ := au_cells HO9.out.2.2.2.1
          simp only at s3_0 s3_1 s3_2 s3_3 s3_4 s3_5
          obtain ⟨r3_0, r3_1, r3_2⟩ := row_cells HO9.out.2.2.1
          have hdone := HO9.out.done (by have := Hsm.out; simp only [List.length_set]; omega)
          have HDn := Lib.hid hdone
          clear hdone
          have y0 := HO9.out.2.1.free 0
          have y1 := HO9.out.2.1.free 1
          have y2 := HO9.out.2.1.free 2
          have y3 := HO9.out.2.1.free 3
          have y4 := HO9.out.2.1.free 4
          have y5 := HO9.out.2.1.free 5
          obtain ⟨z0, z1, z2, z3, z4, z5⟩ := au_cells HO9.out.2.1
          simp only at z0 z1 z2 z3 z4 z5
          go_wp2_with fail
          obtain ⟨q0, q1, q2, q3, q4, q5⟩ := au_cells HDn.out.1
          simp only [au6] at q0 q1 q2 q3 q4 q5
          refine bodyPost_ret (v := .tuple #[auAt ⟨tr, 2, told.set fr.toNat true, use, inc.set fr.toNat ri, true⟩ ⟨some ⟨bb3, 0, none⟩, M1, K1, A2, M2, K2, some ⟨bb2, 0, none⟩, M3, K3⟩, .int .i64 0]) (by simp [results, Try.results12, go_sem, q0, q1, q2, q3, q4, q5]) rfl ⟨⟨some ⟨bb3, 0, none⟩, M1, K1, A2, M2, K2, some ⟨bb2, 0, none⟩, M3, K3⟩, rfl, HDn.out.2.1, HDn.out.2.2.1, fun g _ hg => HDn.out.2.2.2 g hg⟩
        | false =>
          obtain rfl : res = ((⟨tr, 2, told.set fr.toNat true, use, inc.set fr.toNat ri, moved⟩ : Au), 0) := Hr2.out.trans (by rw [if_neg (by decide), Hmvd.out, Bool.or_false])
          obtain ⟨s0_0, s0_1, s0_2, s0_3, s0_4, s0_5⟩ := au_cells HO6.out.2.2.2.1
          simp only at s0_0 s0_1 s0_2 s0_3 s0_4 s0_5
          obtain ⟨r0_0, r0_1, r0_2⟩ := row_cells HO6.out.2.2.1
          obtain ⟨bb1, hp1, fz1, fc1, ho1⟩ := HO6.out.inc (i := fr.toNat) (by have := Hf.out; omega) ri
          obtain rfl : A3 = some ⟨bb1, 0, none⟩ := hp1
          have HO7 := Lib.hid ho1
          clear ho1
          obtain ⟨s1_0, s1_1, s1_2, s1_3, s1_4, s1_5⟩ := au_cells HO7.out.2.2.2.1
          simp only at s1_0 s1_1 s1_2 s1_3 s1_4 s1_5
          obtain ⟨r1_0, r1_1, r1_2⟩ := row_cells HO7.out.2.2.1
          obtain ⟨bb2, hp2, fz2, fc2, ho2⟩ := HO7.out.told (i := fr.toNat) (by have := Hf.out; omega) true
          obtain rfl : A1 = some ⟨bb2, 0, none⟩ := hp2
          have HO8 := Lib.hid ho2
          clear ho2
          obtain ⟨s2_0, s2_1, s2_2, s2_3, s2_4, s2_5⟩ := au_cells HO8.out.2.2.2.1
          simp only at s2_0 s2_1 s2_2 s2_3 s2_4 s2_5
          obtain ⟨r2_0, r2_1, r2_2⟩ := row_cells HO8.out.2.2.1
          have hdone := HO8.out.done (by have := Hsm.out; simp only [List.length_set]; omega)
          have HDn := Lib.hid hdone
          clear hdone
          have y0 := HO8.out.2.1.free 0
          have y1 := HO8.out.2.1.free 1
          have y2 := HO8.out.2.1.free 2
          have y3 := HO8.out.2.1.free 3
          have y4 := HO8.out.2.1.free 4
          have y5 := HO8.out.2.1.free 5
          obtain ⟨z0, z1, z2, z3, z4, z5⟩ := au_cells HO8.out.2.1
          simp only at z0 z1 z2 z3 z4 z5
          go_wp2_with fail
          obtain ⟨q0, q1, q2, q3, q4, q5⟩ := au_cells HDn.out.1
          simp only [au6] at q0 q1 q2 q3 q4 q5
          refine bodyPost_ret (v := .tuple #[auAt ⟨tr, 2, told.set fr.toNat true, use, inc.set fr.toNat ri, moved⟩ ⟨some ⟨bb2, 0, none⟩, M1, K1, A2, M2, K2, some ⟨bb1, 0, none⟩, M3, K3⟩, .int .i64 0]) (by simp [results, Try.results12, go_sem, q0, q1, q2, q3, q4, q5]) rfl ⟨⟨some ⟨bb2, 0, none⟩, M1, K1, A2, M2, K2, some ⟨bb1, 0, none⟩, M3, K3⟩, rfl, HDn.out.2.1, HDn.out.2.2.1, fun g _ hg => HDn.out.2.2.2 g hg⟩
end Go.Proofs.Ytgonboccklpoaaa
