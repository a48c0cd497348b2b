/- Parts, as far as BookTakesCards reaches them, of: RefRightsOf, Ref04May. No law is proved here. -/
import Derived.Test.YtnkgakhnlbifdaaGreatTb1
import Derived.Test.YtnkgakhnlbifdaaGreatTb2
import Derived.WalkKit
import Derived.ProofKit
import Derived.OpenShut
import Derived.WalkSpells
import Derived.Laws.AppendOwn
import Derived.Laws.AppendOwnNone
import Derived.Laws.OwnMore
import Derived.Lib.Hide
import Derived.Deep.Draws
import Derived.Deep.Slices
import Derived.Deep.Fields
import Derived.ChangeSame
import Derived.RegionTactic
import Derived.Maps.AppendAt
import Derived.Lib.SmallJoins
import Derived.WalkLawsBesides
import Derived.LoopTactic
import Derived.IntWalk
import Derived.WalkSmall
import Derived.Deep.QuietTactic
import Derived.BigQuiet
import Derived.Deep.RegionHeld3
import Derived.RangeFuncNested
import Derived.RangeFuncBound
import Derived.RangeFuncLeaves
import Derived.RangeFuncBox
import Derived.Laws.MakeOwn
namespace Go.Proofs.YtnkgakhnlbifdaaGreat
open Go.RowKit
set_option maxRecDepth 100000 in
set_option maxHeartbeats 2000000 in
theorem refshare_calls (c : Cf) (who : Int) (w : World) : Calls Tryz.prog 107 #[cfV c, .int .i64 who] w (fun e w' => e = .returned (.int .i64 (shareV c who)) ∧ Below w.heap.size w w') := by
 have HW := Lib.hid (Whole.made w 23 (cfCells c))
 have Hb0 := Lib.hid (below_box w (.cells (cfCells c) 23))
 obtain ⟨n, q, r, p, k, cc⟩ := c
 by_cases hok : cfOk ⟨n, q, r, p, k, cc⟩
 · by_cases h0 : 0 ≤ who
   · by_cases h1 : who < n
     · have Hok := Lib.hid hok
       obtain ⟨g1, g2, _, _, _, _, _, _, g9, g10, g11⟩ := hok
       simp only at g1 g2 g9 g10 g11
       have hkk : k ≤ 1099511627776 := by
        have := Int.mul_nonneg (show 0 ≤ n by omega) g10
        omega
       clear g10 g11
       have hv : shareV ⟨n, q, r, p, k, cc⟩ who = k / n + (if who < k - k / n * n then 1 else 0) := if_pos ⟨Hok.out, h0, h1⟩
       have hq0 : 0 ≤ k / n := Int.ediv_nonneg g9 (by omega)
       have hqk : k / n * n ≤ k := Int.ediv_mul_le k (by omega)
       have hqn : 0 ≤ k / n * n := Int.mul_nonneg hq0 (by omega)
       have hqs : k / n ≤ k := Int.ediv_le_self n g9
       obtain ⟨s, hs⟩ : ∃ s, k / n = s := ⟨_, rfl⟩
       rw [hs] at hv hq0 hqk hqn hqs
       obtain ⟨m, hm⟩ : ∃ m, s * n = m := ⟨_, rfl⟩
       rw [hm] at hv hqk hqn
       obtain ⟨v, Hv⟩ : ∃ v, Hid (s + (if who < k - m then 1 else 0) = v) := ⟨_, rfl⟩
       rw [hv, Hv.out]
       clear hv
       have hn0 : n ≠ 0 := by omega
       have Hs := Lib.hid hs; clear hs
       have Hm := Lib.hid hm; clear hm
       go_enter Tryz.func107, Tryz.ntmps107
       go_wp2_with fail
       refine (refcfg_calls ⟨n, q, r, p, k, cc⟩ _).mono ?_
       rintro e w1 ⟨rfl, hb⟩
       rw [cfB_yes Hok.out]
       have Hb1 := Lib.hid (held_next Hb0.out hb)
       have HW1 := Lib.hid (HW.out.later hb HW.out.lt)
       clear hb
       have d0 : w1.cell? ⟨w.heap.size, 0, none⟩ = some (.int .i64 n) := HW1.out.cell 0
       have d4 : w1.cell? ⟨w.heap.size, 4, none⟩ = some (.int .i64 k) := HW1.out.cell 4
       have hs := Hs.out
       have hm := Hm.out
       by_cases hw : who < k - m
       · have Hv1 : Hid (v = s + 1) := by rw [← Hv.out, if_pos hw]; exact rfl
         go_wp2_with fail
         go_ret
         exact ⟨by rw [Hv1.out]; rfl, Hb1.out⟩
       · have Hv1 : Hid (v = s) := by rw [← Hv.out, if_neg hw, Int.add_zero]; exact rfl
         go_wp2_with fail
         go_ret
         exact ⟨by rw [Hv1.out, ← Hs.out]; rfl, Hb1.out⟩
     · rw [shareV_no (fun h => h1 h.2.2)]
       have Hok := Lib.hid hok; clear hok
       go_enter Tryz.func107, Tryz.ntmps107
       go_wp2_with fail
       refine (refcfg_calls ⟨n, q, r, p, k, cc⟩ _).mono ?_
       rintro e w1 ⟨rfl, hb⟩
       rw [cfB_yes Hok.out]
       have Hb1 := Lib.hid (held_next Hb0.out hb)
       have HW1 := Lib.hid (HW.out.later hb HW.out.lt)
       clear hb
       have d0 : w1.cell? ⟨w.heap.size, 0, none⟩ = some (.int .i64 n) := HW1.out.cell 0
       go_wp2_with fail
       go_ret
       exact ⟨rfl, Hb1.out⟩
   · rw [shareV_no (fun h => h0 h.2.1)]
     have Hok := Lib.hid hok; clear hok
     go_enter Tryz.func107, Tryz.ntmps107
     go_wp2_with fail
     refine (refcfg_calls ⟨n, q, r, p, k, cc⟩ _).mono ?_
     rintro e w1 ⟨rfl, hb⟩
     rw [cfB_yes Hok.out]
     have Hb1 := Lib.hid (held_next Hb0.out hb)
     clear hb
     go_wp2_with fail
     go_ret
     exact ⟨rfl, Hb1.out⟩
 · rw [shareV_no (fun h => hok h.1)]
   have Hok := Lib.hid hok; clear hok
   go_enter Tryz.func107, Tryz.ntmps107
   go_wp2_with fail
   refine (refcfg_calls ⟨n, q, r, p, k, cc⟩ _).mono ?_
   rintro e w1 ⟨rfl, hb⟩
   rw [cfB_no Hok.out]
   have Hb1 := Lib.hid (held_next Hb0.out hb)
   clear hb
   go_wp2_with fail
   go_ret
   exact ⟨rfl, Hb1.out⟩
set_option maxRecDepth 100000 in
set_option maxHeartbeats 4000000 in
theorem refof_calls (c : Cf) (a : Option Addr) (m d : Nat) (l : List Rw) (who : Nat) (hm : m = l.length) (h16 : m ≤ 16) (hw : who < m) (hF : Fits l) (w : World) (hB : Books w (.slice a m d) l) :
 Calls Tryz.prog 82 #[cfV c, .slice a m d, .int .i64 (who : Int)] w (fun e w' => e = .returned (.int .i64 (rightsV c l who)) ∧ Below w.heap.size w w') := by
 have HW := Lib.hid (Whole.made w 23 (cfCells c))
 have Hb0 := Lib.hid (below_box w (.cells (cfCells c) 23))
 obtain ⟨b, off, A, C, rfl, hbw, c0, c1, c2, hN⟩ := hB.at (k := who) (by omega)
 have HB := Lib.hid hB; clear hB
 have Hm := Lib.hid hm; clear hm
 have HF := Lib.hid hF; clear hF
 have HN := Lib.hid hN; clear hN
 obtain ⟨x, Hx⟩ : ∃ x, Hid ((at_ l who).inc = x) := ⟨_, rfl⟩
 obtain ⟨y, Hy⟩ : ∃ y, Hid ((at_ l who).use = y) := ⟨_, rfl⟩
 obtain ⟨s, Hs⟩ : ∃ s, Hid (shareV c who = s) := ⟨_, rfl⟩
 have hbx : 0 ≤ x ∧ x ≤ 1099511627776 := by have := HF.out who (by have := Hm.out; omega); rw [Hx.out] at this; omega
 have hby : 0 ≤ y ∧ y ≤ 1099511627776 := by have := HF.out who (by have := Hm.out; omega); rw [Hy.out] at this; omega
 have hbs : 0 ≤ s ∧ s ≤ 1099511627777 := by have := shareV_bound c who; rw [Hs.out] at this; exact this
 obtain ⟨hx0, hx1⟩ := hbx
 obtain ⟨hy0, hy1⟩ := hby
 obtain ⟨hs0, hs1⟩ := hbs
 obtain ⟨M, HM⟩ : ∃ M, Hid ((at_ l who).out.length = M) := ⟨_, rfl⟩
 have hMm : M = m := by rw [← HM.out, (HF.out who (by have := Hm.out; omega)).1, ← Hm.out]
 rw [Hx.out] at c0
 rw [Hy.out] at c1
 rw [HM.out, hMm] at c2
 have HN' : Hid (Nums w (.slice A m C) (at_ l who).out) := by have := HN.out; rw [HM.out, hMm] at this; exact this
 clear HN
 have HMm := Lib.hid hMm; clear hMm
 have KP : Hid (∀ w', Below w.heap.size w w' → w'.cell? ⟨b, off + who * 3, none⟩ = some (.int .i64 x) ∧ w'.cell? ⟨b, off + who * 3 + 1, none⟩ = some (.int .i64 y) ∧ w'.cell? ⟨b, off + who * 3 + 2, none⟩ = some (.slice A m C)) :=
  fun w' h => ⟨cell_later h c0, cell_later h c1, cell_later h c2⟩
 clear c0 c1 c2
 have k0 : (0 : Int) ≤ (who : Int) := by omega
 have k1 : (who : Int) < (m : Int) := by omega
 have KC : Hid (∀ w', Below (w.alloc (.cells (cfCells c) 23)).heap.size (w.alloc (.cells (cfCells c) 23)) w' → ((w'.cell? ⟨w.heap.size, 0, none⟩ = some (.int .i64 c.n) ∧ w'.cell? ⟨w.heap.size, 1, none⟩ = some (.int .i64 c.q) ∧ w'.cell? ⟨w.heap.size, 2, none⟩ = some (.int .i64 c.r) ∧ w'.cell? ⟨w.heap.size, 3, none⟩ = some (.int .i64 c.p) ∧ w'.cell? ⟨w.heap.size, 4, none⟩ = some (.int .i64 c.k) ∧ w'.cell? ⟨w.heap.size, 5, none⟩ = some (.int .i64 c.c)) ∧
  w'.cell? ⟨b, off + who * 3, none⟩ = some (.int .i64 x) ∧ w'.cell? ⟨b, off + who * 3 + 1, none⟩ = some (.int .i64 y))) := fun w' h => by
  have h2 := KP.out w' (held_next Hb0.out h)
  exact ⟨config_cells (HW.out.later h HW.out.lt), h2.1, h2.2.1⟩
 have OS : Hid (∀ w', Calls Tryz.prog 107 #[cfV c, .int .i64 (who : Int)] w' (fun e w'' => e = .returned (.int .i64 s) ∧ Below w'.heap.size w' w'')) := by rw [← Hs.out]; exact fun w' => refshare_calls c who w'
 have e1 : IntKind.i64.wrap (s + x) = s + x := IntWalk.i64_in _ (by omega)
 have e2 : IntKind.i64.wrap (s + x - y) = s + x - y := IntWalk.i64_in _ (by omega)
 go_enter Tryz.func82, Tryz.ntmps82
 go_wp2_with fail
 go_region_held3 (fun w' => (w'.cell? ⟨w.heap.size, 0, none⟩ = some (.int .i64 c.n) ∧ w'.cell? ⟨w.heap.size, 1, none⟩ = some (.int .i64 c.q) ∧ w'.cell? ⟨w.heap.size, 2, none⟩ = some (.int .i64 c.r) ∧ w'.cell? ⟨w.heap.size, 3, none⟩ = some (.int .i64 c.p) ∧ w'.cell? ⟨w.heap.size, 4, none⟩ = some (.int .i64 c.k) ∧ w'.cell? ⟨w.heap.size, 5, none⟩ = some (.int .i64 c.c)) ∧
  w'.cell? ⟨b, off + who * 3, none⟩ = some (.int .i64 x) ∧ w'.cell? ⟨b, off + who * 3 + 1, none⟩ = some (.int .i64 y))
  (first | exact KC.out _ (Below.refl _ _).drew | exact KC.out _ hS1)
  (first | (go_at_call 107; refine (OS.out _).mono ?_; rintro e w1 ⟨rfl, hb1⟩; have hS1 := held_next ((Below.refl _ _).drew) hb1))
 clear e1 e2 OS KC HW
 have Hb1 := Lib.hid (held_next Hb0.out hS1)
 clear hS1 hb1
 go_wp2
 go_loopw [7, 8] (fun t i wr => ∃ (k : Nat) (T : Int), k ≤ m ∧ i = .int .i64 k ∧ t = .int .i64 T ∧ Hid (T = s + x - y + flow l who k) ∧ Hid (Below w.heap.size w wr)) (fun _ i _ => m - (intOf i).toNat)
 case atStart => exact ⟨0, s + x - y, Nat.zero_le _, rfl, rfl, show _ = _ by simp [flow], Hb1.out⟩
 case round =>
  obtain ⟨k, T, hk, rfl, rfl, HT, Hb⟩ := hrel
  by_cases hlt : k < m
  · have hfb := flow_bound HF.out (who := who) (by have := Hm.out; omega) k (by have := Hm.out; omega)
    have hT := HT.out
    have hT0 : -(1125899906842624 * 17) ≤ T := by omega
    have hT1 : T ≤ 1125899906842624 * 17 := by omega
    clear hfb hT
    obtain ⟨b2, off2, A2, C2, ebo, _, _, _, c2, hN2⟩ := HB.out.at (k := k) (by have := Hm.out; omega)
    simp only [Option.some.injEq, Addr.mk.injEq, and_true] at ebo
    obtain ⟨rfl, rfl⟩ := ebo
    obtain ⟨f1, _, _, _, _, f2⟩ := HF.out k (by have := Hm.out; omega)
    have f3 := f2 who (by have := Hm.out; omega)
    obtain ⟨_, _, _, _, _, f4⟩ := HF.out who (by have := Hm.out; omega)
    have f5 := f4 k (by have := Hm.out; omega)
    rw [f1, ← Hm.out] at c2 hN2
    obtain ⟨g2, o2, rfl, _, d2⟩ := hN2.at (i := who) (by rw [f1, ← Hm.out]; exact hw)
    obtain ⟨g1, o1, rfl, _, d1⟩ := HN'.out.at (i := k) (by rw [HM.out, HMm.out]; exact hlt)
    obtain ⟨p1, Hp1⟩ : ∃ z, Hid ((at_ l k).out[who]?.getD 0 = z) := ⟨_, rfl⟩
    obtain ⟨p2, Hp2⟩ : ∃ z, Hid ((at_ l who).out[k]?.getD 0 = z) := ⟨_, rfl⟩
    rw [Hp1.out] at d2 f3
    rw [Hp2.out] at d1 f5
    obtain ⟨f30, f31⟩ := f3
    obtain ⟨f50, f51⟩ := f5
    have r2 := cell_later Hb.out c2
    have r1 := (KP.out wr Hb.out).2.2
    have r3 := cell_later Hb.out d2
    have r4 := cell_later Hb.out d1
    have Hfl : Hid (flow l who (k + 1) = flow l who k + (p1 - p2)) := by rw [← Hp1.out, ← Hp2.out]; exact rfl
    clear f1 f2 f4 c2 hN2 d1 d2
    have j0 : (0 : Int) ≤ (k : Int) := by omega
    have j1 : (k : Int) < (m : Int) := by omega
    have hmb : m ≤ 9223372036854775807 := by omega
    have e1 : IntKind.i64.wrap (T + p1) = T + p1 := IntWalk.i64_in _ (by omega)
    have e2 : IntKind.i64.wrap (T + p1 - p2) = T + p1 - p2 := IntWalk.i64_in _ (by omega)
    go_wp2
    go_quiet (fail)
    clear e1 e2
    go_wp2
    go_roundw
    case rel => exact ⟨k + 1, T + p1 - p2, by omega, by go_num, rfl, show _ = _ by rw [Hfl.out, HT.out]; omega, below_drewN Hb.out _⟩
    case measure => simp [intOf]; omega
  · have hkm : k = m := by omega
    have Hkm := Lib.hid hkm; clear hkm
    have hmb : m ≤ 9223372036854775807 := by omega
    have Hv : Hid (T = rightsV c l who) := by
     unfold rightsV
     rw [HT.out, Hs.out, Hx.out, Hy.out, Hkm.out, Hm.out]; exact rfl
    go_wp2
    go_ret
    exact ⟨by rw [← Hv.out]; rfl, Hb.out⟩
end Go.Proofs.YtnkgakhnlbifdaaGreat
namespace Go.Proofs.YtnkgakhnlbifdaaGreat
open Go.RowKit
set_option maxRecDepth 100000 in
set_option maxHeartbeats 4000000 in
theorem refmay_no (a : Option Addr) (m c : Nat) (i u n who : Int) (w : World) (h : who < 0 ∨ n ≤ who ∨ (m : Int) ≠ n ∨ i < 0 ∨ 1099511627776 < i ∨ u < 0 ∨ 1099511627776 < u) : Calls Tryz.prog 81 #[rowV i u (.slice a m c), .int .i64 n, .int .i64 who] w (Says w false) := by
 by_cases h1 : who < 0
 · clear h
   go_enter Tryz.func81, Tryz.ntmps81
   go_wp2
   go_ret
   exact ⟨rfl, below_box _ _⟩
 by_cases h2 : n ≤ who
 · clear h
   go_enter Tryz.func81, Tryz.ntmps81
   go_wp2
   go_ret
   exact ⟨rfl, below_box _ _⟩
 by_cases h3 : (m : Int) ≠ n
 · clear h
   have h3' : ((m : Int) != n) = true := bne_iff_ne.2 h3
   go_enter Tryz.func81, Tryz.ntmps81
   go_wp2
   go_ret
   exact ⟨rfl, below_box _ _⟩
 have h3e : (m : Int) = n := by omega
 clear h3
 have h3 : ¬ ((m : Int) ≠ n) := fun k => k h3e
 subst h3e
 by_cases h4 : i < 0
 · clear h
   go_enter Tryz.func81, Tryz.ntmps81
   go_wp2
   go_ret
   exact ⟨rfl, below_box _ _⟩
 by_cases h5 : 1099511627776 < i
 · clear h
   go_enter Tryz.func81, Tryz.ntmps81
   go_wp2
   go_ret
   exact ⟨rfl, below_box _ _⟩
 by_cases h6 : u < 0
 · clear h
   go_enter Tryz.func81, Tryz.ntmps81
   go_wp2
   go_ret
   exact ⟨rfl, below_box _ _⟩
 by_cases h7 : 1099511627776 < u
 · clear h
   go_enter Tryz.func81, Tryz.ntmps81
   go_wp2
   go_ret
   exact ⟨rfl, below_box _ _⟩
 omega
set_option maxRecDepth 100000 in
set_option maxHeartbeats 4000000 in
theorem refmay_loop (a : Option Addr) (m c : Nat) (i u who : Int) (la : List Int) (hm : m = la.length) (w : World) (hA : Nums w (.slice a m c) la) (h1 : 0 ≤ who) (h2 : who < (m : Int)) (h4 : 0 ≤ i) (h5 : i ≤ 1099511627776) (h6 : 0 ≤ u) (h7 : u ≤ 1099511627776) :
 Calls Tryz.prog 81 #[rowV i u (.slice a m c), .int .i64 (m : Int), .int .i64 who] w (Says w (mayR i u la m who)) := by
 have hbig : m ≤ 9223372036854775807 := by rw [hm]; exact hA.1
 obtain ⟨b, Hbb⟩ : ∃ b, Hid (mayR i u la m who = b) := ⟨_, rfl⟩
 rw [Hbb.out]
 have HA := Lib.hid hA; clear hA
 have Hm := Lib.hid hm; clear hm
 have HW := Lib.hid (Whole.made w 109 #[.int .i64 i, .int .i64 u, .slice a m c])
 go_enter Tryz.func81, Tryz.ntmps81
 go_wp2
 go_loopw [7] (fun x wr => ∃ k : Nat, k ≤ m ∧ x = .int .i64 k ∧ Hid (∀ q, q < k → 0 ≤ la[q]?.getD 0 ∧ la[q]?.getD 0 ≤ mostOf who q) ∧ Hid (wr = w.alloc (.cells #[.int .i64 i, .int .i64 u, .slice a m c] 109))) (fun x _ => m - (intOf x).toNat)
 case atStart => exact ⟨0, Nat.zero_le _, rfl, fun q hq => absurd hq (Nat.not_lt_zero _), rfl⟩
 case round =>
  obtain ⟨k, hk, rfl, Hl, Hw⟩ := hrel
  have hw := Hw.out
  subst hw
  clear Hw
  by_cases hlt : k < m
  · obtain ⟨g, o, rfl, hg, d⟩ := HA.out.at (i := k) (by have := Hm.out; omega)
    obtain ⟨x, Hx⟩ : ∃ z, Hid (la[k]?.getD 0 = z) := ⟨_, rfl⟩
    rw [Hx.out] at d
    have k0 : (0 : Int) ≤ (k : Int) := by omega
    have k1 : (k : Int) < (m : Int) := by omega
    have Hno : Hid (¬ (0 ≤ x ∧ x ≤ mostOf who k) → b = false) := fun hn => by
     refine Hbb.out.symm.trans (mayR_no fun h => hn ?_)
     have := h.2.2.2.2.2 k (by have := Hm.out; omega)
     rwa [Hx.out] at this
    by_cases hx0 : x < 0
    · obtain rfl : b = false := Hno.out (by omega)
      go_wp2
      go_ret
      exact ⟨by rfl, below_box _ _⟩
    by_cases hx1 : 1125899906842624 < x
    · obtain rfl : b = false := Hno.out (by unfold mostOf; split <;> omega)
      go_wp2
      go_ret
      exact ⟨by rfl, below_box _ _⟩
    by_cases hkw : (k : Int) = who
    · by_cases hx2 : 0 < x
      · obtain rfl : b = false := Hno.out (by unfold mostOf; rw [if_pos hkw]; omega)
        subst hkw
        go_wp2
        go_ret
        exact ⟨by rfl, below_box _ _⟩
      · have Hy : Hid (0 ≤ x ∧ x ≤ mostOf who k) := by unfold mostOf; rw [if_pos hkw]; exact ⟨by omega, by omega⟩
        subst hkw
        go_wp2
        go_roundw
        case rel => exact ⟨k + 1, by omega, by go_num, (fun q hq => by
         by_cases e : q = k
         · subst e; rw [Hx.out]; exact Hy.out
         · exact Hl.out q (by omega)), Lib.hid trivial⟩
        case measure => simp [intOf]; omega
    · have Hy : Hid (0 ≤ x ∧ x ≤ mostOf who k) := by unfold mostOf; rw [if_neg hkw]; exact ⟨by omega, by omega⟩
      have hkw' : ((k : Int) == who) = false := by simpa using hkw
      go_wp2
      go_roundw
      case rel => exact ⟨k + 1, by omega, by go_num, (fun q hq => by
       by_cases e : q = k
       · subst e; rw [Hx.out]; exact Hy.out
       · exact Hl.out q (by omega)), Lib.hid trivial⟩
      case measure => simp [intOf]; omega
  · have hkm : k = m := by omega
    obtain rfl : b = true := Hbb.out.symm.trans ((mayR_iff _ _ _ _ _).2 ⟨by rw [← Hm.out], h1, h2, ⟨h4, h5⟩, ⟨h6, h7⟩, fun q hq => Hl.out q (by have := Hm.out; omega)⟩)
    have Hkm := Lib.hid hkm; clear hkm
    go_wp2
    go_ret
    exact ⟨by rfl, below_box _ _⟩
theorem refmay_calls (a : Option Addr) (m c : Nat) (i u n who : Int) (la : List Int) (hm : m = la.length) (w : World) (hA : Nums w (.slice a m c) la) :
 Calls Tryz.prog 81 #[rowV i u (.slice a m c), .int .i64 n, .int .i64 who] w (Says w (mayR i u la n who)) := by
 by_cases h : who < 0 ∨ n ≤ who ∨ (m : Int) ≠ n ∨ i < 0 ∨ 1099511627776 < i ∨ u < 0 ∨ 1099511627776 < u
 · rw [mayR_no (fun h' => by rw [← hm] at h'; omega)]
   exact refmay_no a m c i u n who w h
 · obtain rfl : (m : Int) = n := by omega
   exact refmay_loop a m c i u who la hm w hA (by omega) (by omega) (by omega) (by omega) (by omega) (by omega)
end Go.Proofs.YtnkgakhnlbifdaaGreat
