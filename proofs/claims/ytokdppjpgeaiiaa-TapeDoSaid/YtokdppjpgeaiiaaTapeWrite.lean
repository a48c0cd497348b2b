/- Package tape, walked: Write. No law is proved here. -/
import Derived.Test.YtokdppjpgeaiiaaTapeOwn
import Derived.WalkKit
import Derived.ProofKit
import Derived.OpenShut
import Derived.WalkSpells
import Derived.Laws.AppendOwn
import Derived.Laws.AppendOwnNone
import Derived.Laws.OwnMore
import Derived.Lib.Hide
import Derived.Deep.Draws
import Derived.RegionTactic
import Derived.LoopTactic
import Derived.BigRegion
import Derived.Deep.LoopGhost
import Derived.Lib.MinMax
import Derived.IntWalk
import Derived.Deep.RegionLaw
import Derived.Deep.RegionHeld3
namespace Go.Proofs.Ytokdppjpgeaiiaa
open Go.RowKit

/-- an append whose run is known, as a step of a region that draws -/
theorem step_append_run {P : Program} {ops : Array Oper} {o : Oper} {a : Act} {w : World} {K : Act → World → Prop} {Q : Exit → Act → World → Prop} {E : Prop} (hgd : o.guard = none) (s x : Operand) (t t2 : TypeId)
    (ho : o.op = Op.call { callee := Callee.builtin Builtin.append, args := #[s, x], argTypes := #[t, t2] }) (vs vx : Value) (hs : a.eval s = vs) (hx : a.eval x = vx) (v' : Value) (w' : World)
    (hr : (Builtin.append_ #[t, t2] o.type #[vs, vx]).run P w = .ok v' w') (h : K (a.put o.dst v') w') : if Region.wanted o (yielded ops a.tmps) = true then Oper.wp P o a w K Q else E := by
  have hw : Region.wanted o (yielded ops a.tmps) = true := by simp [Region.wanted, hgd]
  rw [if_pos hw]
  exact Lib.wp_append_run w s x t t2 ho vs vx hs hx v' w' hr h
theorem wrote_s {t : Tp} {zb : List Int} (n : Nat) (h : n = t.s.s.length) : (⟨t.m, ⟨(t.s.all ++ zb).take n, (t.s.all ++ zb).drop n⟩⟩ : Tp) = wroteT t true zb := by
  obtain ⟨tm, ⟨s, l⟩⟩ := t
  subst h
  simp [Ar.all, wroteT]
theorem wrote_m {t : Tp} {zb : List Int} (n : Nat) (h : n = t.m.s.length) : (⟨⟨(t.m.all ++ zb).take n, (t.m.all ++ zb).drop n⟩, t.s⟩ : Tp) = wroteT t false zb := by
  obtain ⟨⟨s, l⟩, ts⟩ := t
  subst h
  simp [Ar.all, wroteT]
theorem may_wrote (t : Tp) (sp : Bool) (zb : List Int) : mayT (wroteT t sp zb) = decide (sizeT t + zb.length ≤ 65536) := by
  unfold mayT sizeT wroteT
  congr 1
  cases sp <;> simp [Ar.all] <;> omega
set_option maxRecDepth 100000 in
set_option maxHeartbeats 16000000 in
theorem tWrite_calls (x : TpS) (t : Tp) (sp : Bool) (sb : Sl) (zb : List Int) (w : World) (h : TB w x t) (hf : t.fits 400000) (hB : SB w sb zb) (hfb : zb.length ≤ 400000) :
    Calls Try.prog 8 #[tpV x, .bool sp, slV sb] w (TapedC w (fun g => TOff g x t ∧ Off g sb zb) (writeT t sp zb)) := by
  obtain ⟨b5, n5, c5⟩ := sb
  have HB := Lib.hid hB; clear hB
  have HFb := Lib.hid hfb; clear hfb
  have hn5 : n5 ≤ 400000 := by have := HB.out.1; have := HFb.out; simp only at *; omega
  obtain ⟨m1, Hm1⟩ : ∃ z, Hid (mayT t = z) := ⟨_, rfl⟩
  obtain ⟨zt, Hzt⟩ : ∃ z, Hid (sizeT t = z) := ⟨_, rfl⟩
  have hzt : zt ≤ 2000000 := by rw [← Hzt.out]; unfold sizeT Ar.all; rw [List.length_append, List.length_append]; obtain ⟨⟨_, _⟩, _, _⟩ := hf; omega
  have Hm2 : Hid (mayT (wroteT t sp zb) = decide (zt + n5 ≤ 65536)) := by have := may_wrote t sp zb; rw [Hzt.out, ← show n5 = zb.length from HB.out.1] at this; exact this
  obtain ⟨res, Hres⟩ : ∃ z, Hid (writeT t sp zb = z) := ⟨_, rfl⟩
  rw [Hres.out]
  obtain ⟨⟨⟨a1, na1, ca1⟩, ⟨a2, na2, ca2⟩⟩, ⟨⟨a3, na3, ca3⟩, ⟨a4, na4, ca4⟩⟩⟩ := x
  have H := Lib.hid h; clear h
  have HF := Lib.hid hf; clear hf
  have HF1 : Hid (t.fits 1000000) := by obtain ⟨⟨_, _⟩, _, _⟩ := HF.out; exact ⟨⟨by omega, by omega⟩, by omega, by omega⟩
  obtain ⟨W1, hW1⟩ : ∃ z, (w.alloc (.cells #[.slice a1 na1 ca1, .slice a2 na2 ca2, .slice a3 na3 ca3, .slice a4 na4 ca4] 26)).alloc (.cells #[.slice none 0 0, .slice none 0 0, .slice none 0 0, .slice none 0 0] 26) = z := ⟨_, rfl⟩
  have HW : Hid (Whole W1 w.heap.size 26 #[.slice a1 na1 ca1, .slice a2 na2 ca2, .slice a3 na3 ca3, .slice a4 na4 ca4]) := by rw [← hW1]; exact (Whole.made w _ _).alloc _
  have HZ : Hid (Whole W1 (w.heap.size + 1) 26 #[.slice none 0 0, .slice none 0 0, .slice none 0 0, .slice none 0 0]) := by rw [← hW1]; exact Whole.made2 w _ _ _
  have Hb0 : Hid (Below w.heap.size w W1) := by rw [← hW1]; exact below_two w _ _
  have hs1 : w.heap.size + 1 < W1.heap.size := HZ.out.lt
  have q0 := HW.out.cell 0
  have q1 := HW.out.cell 1
  have q2 := HW.out.cell 2
  have q3 := HW.out.cell 3
  show Calls Try.prog 8 #[.agg #[.slice a1 na1 ca1, .slice a2 na2 ca2, .slice a3 na3 ca3, .slice a4 na4 ca4], .bool sp, .slice b5 n5 c5] w _
  go_enter Try.func8, Try.ntmps8
  go_wp2_with fail
  clear hW1
  refine (tMay_calls ⟨⟨⟨a1, na1, ca1⟩, ⟨a2, na2, ca2⟩⟩, ⟨⟨a3, na3, ca3⟩, ⟨a4, na4, ca4⟩⟩⟩ t _ (H.out.later Hb0.out) HF.out).mono ?_
  rw [Hm1.out]
  rintro e w1 ⟨rfl, hb⟩
  have HW1 := Lib.hid (HW.out.later hb HW.out.lt)
  have HZ1 := Lib.hid (HZ.out.later hb HZ.out.lt)
  have Hb1 := Lib.hid (held_next Hb0.out hb)
  have hlt1 : w.heap.size + 1 < w1.heap.size := HZ1.out.lt
  clear hb q0 q1 q2 q3
  have q0 := HW1.out.cell 0
  have q1 := HW1.out.cell 1
  have q2 := HW1.out.cell 2
  have q3 := HW1.out.cell 3
  cases m1 with
  | false =>
    obtain rfl : res = (t, 1) := Hres.out.symm.trans (by unfold writeT; rw [Hm1.out]; exact if_neg (by decide))
    have z0 := HZ1.out.cell 0
    have z1 := HZ1.out.cell 1
    have z2 := HZ1.out.cell 2
    have z3 := HZ1.out.cell 3
    have y0 := HZ1.out.free 0
    have y1 := HZ1.out.free 1
    have y2 := HZ1.out.free 2
    have y3 := HZ1.out.free 3
    go_wp2_with fail
    have hL := tape_left4 HZ1.out (.slice a1 na1 ca1) (.slice a2 na2 ca2) (.slice a3 na3 ca3) (.slice a4 na4 ca4)
    have k0 := hL.cell 0
    have k1 := hL.cell 1
    have k2 := hL.cell 2
    have k3 := hL.cell 3
    refine bodyPost_ret (v := .tuple #[.agg #[.slice a1 na1 ca1, .slice a2 na2 ca2, .slice a3 na3 ca3, .slice a4 na4 ca4], .int .i64 1]) (by simp [results, Try.results8, go_sem, k0, k1, k2, k3]) rfl ?_
    exact ⟨⟨⟨⟨a1, na1, ca1⟩, ⟨a2, na2, ca2⟩⟩, ⟨⟨a3, na3, ca3⟩, ⟨a4, na4, ca4⟩⟩⟩, rfl, (H.out.later Hb1.out).four (H.out.off (Nat.le_succ _)) _ _ _ _, fun g hg h => h.1, below_four Hb1.out (Nat.le_succ _) _ _ _ _⟩
  | true =>
  have HR : Hid (res = if decide (zt + n5 ≤ 65536) = true then (wroteT t sp zb, 0) else (t, 6)) := Hres.out.symm.trans (by unfold writeT; rw [Hm1.out, Hm2.out]; exact if_pos rfl)
  go_wp2_with fail
  refine (size_calls ⟨⟨⟨a1, na1, ca1⟩, ⟨a2, na2, ca2⟩⟩, ⟨⟨a3, na3, ca3⟩, ⟨a4, na4, ca4⟩⟩⟩ t _ (H.out.later Hb1.out) HF1.out).mono ?_
  rw [Hzt.out]
  rintro e wa ⟨rfl, hb⟩
  have HWa := Lib.hid (HW1.out.later hb HW1.out.lt)
  have HZa := Lib.hid (HZ1.out.later hb HZ1.out.lt)
  have Hba := Lib.hid (held_next Hb1.out hb)
  have hsa : w.heap.size + 1 < wa.heap.size := HZa.out.lt
  have hsub : IntKind.i64.wrap (65536 - (zt : Int)) = 65536 - (zt : Int) := IntWalk.i64_in _ (by omega)
  clear hb q0 q1 q2 q3 hzt
  have q0 := HWa.out.cell 0
  have q1 := HWa.out.cell 1
  have q2 := HWa.out.cell 2
  have q3 := HWa.out.cell 3
  by_cases hbig : zt + n5 ≤ 65536
  · have hgt : ¬ (65536 - (zt : Int) < (n5 : Int)) := by omega
    obtain rfl : res = (wroteT t sp zb, 0) := HR.out.trans (if_pos (decide_eq_true hbig))
    clear hbig
    cases sp with
    | true =>
      go_wp2_with fail
      clear q0 q1 q2 q3
      refine (own_calls ⟨⟨⟨a1, na1, ca1⟩, ⟨a2, na2, ca2⟩⟩, ⟨⟨a3, na3, ca3⟩, ⟨a4, na4, ca4⟩⟩⟩ t _ (H.out.later Hba.out) HF1.out).mono ?_
      rintro e wo ⟨⟨⟨⟨b1, nb1, cb1⟩, ⟨b2, nb2, cb2⟩⟩, ⟨⟨b3, nb3, cb3⟩, ⟨b4, nb4, cb4⟩⟩⟩, rfl, hT, hO, hb⟩
      have HO : Hid (∀ g, g < wa.heap.size → TOff g ⟨⟨⟨b1, nb1, cb1⟩, ⟨b2, nb2, cb2⟩⟩, ⟨⟨b3, nb3, cb3⟩, ⟨b4, nb4, cb4⟩⟩⟩ t) := fun g hg => hO g hg trivial
      have HW2 := Lib.hid (HWa.out.later hb HWa.out.lt)
      have HZ2 := Lib.hid (HZa.out.later hb hsa)
      have Hb2 := Lib.hid (held_next Hba.out hb)
      have q0 := HW2.out.cell 0
      have q1 := HW2.out.cell 1
      have q2 := HW2.out.cell 2
      have q3 := HW2.out.cell 3
      have f0 := HW2.out.free 0
      have f1 := HW2.out.free 1
      have f2 := HW2.out.free 2
      have f3 := HW2.out.free 3
      have hs2 : w.heap.size < wo.heap.size := HW2.out.lt
      obtain ⟨w3, hw3⟩ : ∃ z, ((((wo.setCell ⟨w.heap.size, 0, none⟩ (.slice b1 nb1 cb1)).setCell ⟨w.heap.size, 1, none⟩ (.slice b2 nb2 cb2)).setCell ⟨w.heap.size, 2, none⟩ (.slice b3 nb3 cb3)).setCell ⟨w.heap.size, 3, none⟩ (.slice b4 nb4 cb4)) = z := ⟨_, rfl⟩
      have HW3 : Hid (Whole w3 w.heap.size 26 #[.slice b1 nb1 cb1, .slice b2 nb2 cb2, .slice b3 nb3 cb3, .slice b4 nb4 cb4]) := by rw [← hw3]; exact tape_left4 HW2.out _ _ _ _
      have HZ3 : Hid (Whole w3 (w.heap.size + 1) 26 #[.slice none 0 0, .slice none 0 0, .slice none 0 0, .slice none 0 0]) := by rw [← hw3]; exact ((((HZ2.out.other (p := ⟨w.heap.size, 0, none⟩) (Nat.succ_ne_self _) _).other (p := ⟨w.heap.size, 1, none⟩) (Nat.succ_ne_self _) _).other (p := ⟨w.heap.size, 2, none⟩) (Nat.succ_ne_self _) _).other (p := ⟨w.heap.size, 3, none⟩) (Nat.succ_ne_self _) _)
      have HT3 : Hid (TB w3 ⟨⟨⟨b1, nb1, cb1⟩, ⟨b2, nb2, cb2⟩⟩, ⟨⟨b3, nb3, cb3⟩, ⟨b4, nb4, cb4⟩⟩⟩ t) := by rw [← hw3]; exact hT.four (HO.out _ (by omega)) _ _ _ _
      have Hb3 : Hid (Below w.heap.size w w3) := by rw [← hw3]; exact below_four Hb2.out (Nat.le_refl _) _ _ _ _
      have Hs3 : Hid (wa.heap.size ≤ w3.heap.size) := by rw [← hw3]; have := hb.size; exact Lib.hid (by simpa using this)
      have hlt3 : w.heap.size + 1 < w3.heap.size := HZ3.out.lt
      clear hb hT hO
      go_wp2_with fail
      clear q0 q1 q2 q3 f0 f1 f2 f3 hw3
      refine (area_calls w.heap.size true _).mono ?_
      rintro e wA ⟨rfl, rfl⟩
      have q0 := HW3.out.cell 0
      have q1 := HW3.out.cell 1
      have q2 := HW3.out.cell 2
      have q3 := HW3.out.cell 3
      have O1 := Lib.hid (tbytes_calls ⟨⟨b3, nb3, cb3⟩, ⟨b4, nb4, cb4⟩⟩ t.s w3.drew (HT3.out.2.later (Below.refl _ _).drew) HF1.out.2)
      go_wp2_with fail
      go_region_law (first
          | (refine step_append_run rfl (.tmp 28) (.tmp 29) 22 22 rfl v4 (.slice b5 n5 c5) rfl rfl (.slice d0 nd0 cd0) w5 Hrun.out ?_)
          | (go_simp; go_at_call 13; have hcall := O1.out; (with_reducible refine hcall.mono ?_); clear hcall; rintro e w4 ⟨v4, rfl, hO4, hb⟩; have Hb34 : Hid (Below w3.heap.size w3 w4) := (Below.refl _ _).drew.trans hb; obtain ⟨v5, w5, hrun, hO5, hb5, _⟩ := run_append_own hO4 hb.size ((HB.out.later (Hb3.out)).2.2.later Hb34.out) HB.out.1 HB.out.2.1 (by unfold Ar.all; rw [List.length_append]; obtain ⟨⟨_, _⟩, _, _⟩ := HF.out; have := HFb.out; omega); obtain ⟨⟨d0, nd0, cd0⟩, rfl, hS5, ho5⟩ := hO5.sl (by unfold Ar.all; rw [List.length_append, List.length_append]; obtain ⟨⟨_, _⟩, _, _⟩ := HF.out; have := HFb.out; omega); have Hrun := Lib.hid hrun; have hb5' : Below w3.heap.size w4 w5 := hb5; have Hb35 : Hid (Below w3.heap.size w3 w5) := Hb34.out.trans hb5'; clear hb5'; have HS5 := Lib.hid hS5; have HO5 : Hid (∀ g, g < w3.heap.size → Off g ⟨d0, nd0, cd0⟩ (t.s.all ++ zb)) := ho5; have HW4 := Lib.hid (HW3.out.later Hb34.out HW3.out.lt); have HW5 := Lib.hid (HW3.out.later Hb35.out HW3.out.lt); have k40 := HW4.out.cell 0; have k41 := HW4.out.cell 1; have k42 := HW4.out.cell 2; have k43 := HW4.out.cell 3; have k50 := HW5.out.cell 0; have k51 := HW5.out.cell 1; have k52 := HW5.out.cell 2; have k53 := HW5.out.cell 3; have hl4 := HW4.out.lt; have hl5 := HW5.out.lt; clear hO4 hb hrun hO5 hb5 hS5 ho5)
          | (go_simp; go_at_call 28; have hcall := laid_calls ⟨d0, nd0, cd0⟩ (t.s.all ++ zb) nb3 w5 HS5.out (by have h1 : nd0 = (t.s.all ++ zb).length := HS5.out.1; have h2 : nb3 = t.s.s.length := HT3.out.2.1.1; show nb3 ≤ nd0; rw [h1, h2]; unfold Ar.all; rw [List.length_append, List.length_append]; omega); (with_reducible refine hcall.mono ?_); clear hcall; rintro e w6 ⟨⟨⟨d1, nd1, cd1⟩, ⟨d2, nd2, cd2⟩⟩, rfl, hA, ho, hb⟩; have Hb36 : Hid (Below w3.heap.size w3 w6) := held_next Hb35.out hb; have HA6 := Lib.hid hA; have HO6 : Hid (∀ g, g < w3.heap.size → AOff g ⟨⟨d1, nd1, cd1⟩, ⟨d2, nd2, cd2⟩⟩ ⟨(t.s.all ++ zb).take nb3, (t.s.all ++ zb).drop nb3⟩) := fun g hg => ho g (Nat.lt_of_lt_of_le hg Hb35.out.size) (HO5.out g hg); have HW6 := Lib.hid (HW3.out.later Hb36.out HW3.out.lt); have HZ6 := Lib.hid (HZ3.out.later Hb36.out HZ3.out.lt); have q60 := HW6.out.cell 0; have f60 := HW6.out.free 0; have q61 := HW6.out.cell 1; have f61 := HW6.out.free 1; have q62 := HW6.out.cell 2; have f62 := HW6.out.free 2; have q63 := HW6.out.cell 3; have f63 := HW6.out.free 3; have z0 := HZ6.out.cell 0; have y0 := HZ6.out.free 0; have z1 := HZ6.out.cell 1; have y1 := HZ6.out.free 1; have z2 := HZ6.out.cell 2; have y2 := HZ6.out.free 2; have z3 := HZ6.out.cell 3; have y3 := HZ6.out.free 3; have hlt := HZ6.out.lt; have hlt6 := HW6.out.lt; clear hA ho hb))
      all_goals go_wp2_with fail
      all_goals have hL := tape_left (i := 2) (j := 3) HZ6.out (Nat.succ_ne_self w.heap.size) (.slice d1 nd1 cd1) (.slice d2 nd2 cd2) (.slice b1 nb1 cb1) (.slice b2 nb2 cb2) (.slice d1 nd1 cd1) (.slice d2 nd2 cd2)
      all_goals have k0 := hL.cell 0
      all_goals have k1 := hL.cell 1
      all_goals have k2 := hL.cell 2
      all_goals have k3 := hL.cell 3
      all_goals refine bodyPost_ret (v := .tuple #[.agg #[.slice b1 nb1 cb1, .slice b2 nb2 cb2, .slice d1 nd1 cd1, .slice d2 nd2 cd2], .int .i64 0]) (by simp [results, Try.results8, go_sem, k0, k1, k2, k3]) rfl ?_
      all_goals rw [← wrote_s nb3 (HT3.out.2.1.1)]
      all_goals exact ⟨⟨⟨⟨b1, nb1, cb1⟩, ⟨b2, nb2, cb2⟩⟩, ⟨⟨d1, nd1, cd1⟩, ⟨d2, nd2, cd2⟩⟩⟩, rfl, ⟨⟨(HT3.out.1.1.later Hb36.out).six (HO.out _ (by omega)).1.1 (HO.out _ hsa).1.1 _ _ _ _ _ _, (HT3.out.1.2.later Hb36.out).six (HO.out _ (by omega)).1.2 (HO.out _ hsa).1.2 _ _ _ _ _ _⟩, ⟨HA6.out.1.six (HO6.out _ (by omega)).1 (HO6.out _ (by omega)).1 _ _ _ _ _ _, HA6.out.2.six (HO6.out _ (by omega)).2 (HO6.out _ (by omega)).2 _ _ _ _ _ _⟩⟩, fun g hg _ => ⟨(HO.out g (by omega)).1, HO6.out g (by have := Hs3.out; omega)⟩, below_six (held_next Hb3.out Hb36.out) (Nat.le_refl _) (Nat.le_succ _) _ _ _ _ _ _⟩
    | false =>
      go_wp2_with fail
      clear q0 q1 q2 q3
      refine (own_calls ⟨⟨⟨a1, na1, ca1⟩, ⟨a2, na2, ca2⟩⟩, ⟨⟨a3, na3, ca3⟩, ⟨a4, na4, ca4⟩⟩⟩ t _ (H.out.later Hba.out) HF1.out).mono ?_
      rintro e wo ⟨⟨⟨⟨b1, nb1, cb1⟩, ⟨b2, nb2, cb2⟩⟩, ⟨⟨b3, nb3, cb3⟩, ⟨b4, nb4, cb4⟩⟩⟩, rfl, hT, hO, hb⟩
      have HO : Hid (∀ g, g < wa.heap.size → TOff g ⟨⟨⟨b1, nb1, cb1⟩, ⟨b2, nb2, cb2⟩⟩, ⟨⟨b3, nb3, cb3⟩, ⟨b4, nb4, cb4⟩⟩⟩ t) := fun g hg => hO g hg trivial
      have HW2 := Lib.hid (HWa.out.later hb HWa.out.lt)
      have HZ2 := Lib.hid (HZa.out.later hb hsa)
      have Hb2 := Lib.hid (held_next Hba.out hb)
      have q0 := HW2.out.cell 0
      have q1 := HW2.out.cell 1
      have q2 := HW2.out.cell 2
      have q3 := HW2.out.cell 3
      have f0 := HW2.out.free 0
      have f1 := HW2.out.free 1
      have f2 := HW2.out.free 2
      have f3 := HW2.out.free 3
      have hs2 : w.heap.size < wo.heap.size := HW2.out.lt
      obtain ⟨w3, hw3⟩ : ∃ z, ((((wo.setCell ⟨w.heap.size, 0, none⟩ (.slice b1 nb1 cb1)).setCell ⟨w.heap.size, 1, none⟩ (.slice b2 nb2 cb2)).setCell ⟨w.heap.size, 2, none⟩ (.slice b3 nb3 cb3)).setCell ⟨w.heap.size, 3, none⟩ (.slice b4 nb4 cb4)) = z := ⟨_, rfl⟩
      have HW3 : Hid (Whole w3 w.heap.size 26 #[.slice b1 nb1 cb1, .slice b2 nb2 cb2, .slice b3 nb3 cb3, .slice b4 nb4 cb4]) := by rw [← hw3]; exact tape_left4 HW2.out _ _ _ _
      have HZ3 : Hid (Whole w3 (w.heap.size + 1) 26 #[.slice none 0 0, .slice none 0 0, .slice none 0 0, .slice none 0 0]) := by rw [← hw3]; exact ((((HZ2.out.other (p := ⟨w.heap.size, 0, none⟩) (Nat.succ_ne_self _) _).other (p := ⟨w.heap.size, 1, none⟩) (Nat.succ_ne_self _) _).other (p := ⟨w.heap.size, 2, none⟩) (Nat.succ_ne_self _) _).other (p := ⟨w.heap.size, 3, none⟩) (Nat.succ_ne_self _) _)
      have HT3 : Hid (TB w3 ⟨⟨⟨b1, nb1, cb1⟩, ⟨b2, nb2, cb2⟩⟩, ⟨⟨b3, nb3, cb3⟩, ⟨b4, nb4, cb4⟩⟩⟩ t) := by rw [← hw3]; exact hT.four (HO.out _ (by omega)) _ _ _ _
      have Hb3 : Hid (Below w.heap.size w w3) := by rw [← hw3]; exact below_four Hb2.out (Nat.le_refl _) _ _ _ _
      have Hs3 : Hid (wa.heap.size ≤ w3.heap.size) := by rw [← hw3]; have := hb.size; exact Lib.hid (by simpa using this)
      have hlt3 : w.heap.size + 1 < w3.heap.size := HZ3.out.lt
      clear hb hT hO
      go_wp2_with fail
      clear q0 q1 q2 q3 f0 f1 f2 f3 hw3
      refine (area_calls w.heap.size false _).mono ?_
      rintro e wA ⟨rfl, rfl⟩
      have q0 := HW3.out.cell 0
      have q1 := HW3.out.cell 1
      have q2 := HW3.out.cell 2
      have q3 := HW3.out.cell 3
      have O1 := Lib.hid (tbytes_calls ⟨⟨b1, nb1, cb1⟩, ⟨b2, nb2, cb2⟩⟩ t.m w3.drew (HT3.out.1.later (Below.refl _ _).drew) HF1.out.1)
      go_wp2_with fail
      go_region_law (first
          | (refine step_append_run rfl (.tmp 28) (.tmp 29) 22 22 rfl v4 (.slice b5 n5 c5) rfl rfl (.slice d0 nd0 cd0) w5 Hrun.out ?_)
          | (go_simp; go_at_call 13; have hcall := O1.out; (with_reducible refine hcall.mono ?_); clear hcall; rintro e w4 ⟨v4, rfl, hO4, hb⟩; have Hb34 : Hid (Below w3.heap.size w3 w4) := (Below.refl _ _).drew.trans hb; obtain ⟨v5, w5, hrun, hO5, hb5, _⟩ := run_append_own hO4 hb.size ((HB.out.later (Hb3.out)).2.2.later Hb34.out) HB.out.1 HB.out.2.1 (by unfold Ar.all; rw [List.length_append]; obtain ⟨⟨_, _⟩, _, _⟩ := HF.out; have := HFb.out; omega); obtain ⟨⟨d0, nd0, cd0⟩, rfl, hS5, ho5⟩ := hO5.sl (by unfold Ar.all; rw [List.length_append, List.length_append]; obtain ⟨⟨_, _⟩, _, _⟩ := HF.out; have := HFb.out; omega); have Hrun := Lib.hid hrun; have hb5' : Below w3.heap.size w4 w5 := hb5; have Hb35 : Hid (Below w3.heap.size w3 w5) := Hb34.out.trans hb5'; clear hb5'; have HS5 := Lib.hid hS5; have HO5 : Hid (∀ g, g < w3.heap.size → Off g ⟨d0, nd0, cd0⟩ (t.m.all ++ zb)) := ho5; have HW4 := Lib.hid (HW3.out.later Hb34.out HW3.out.lt); have HW5 := Lib.hid (HW3.out.later Hb35.out HW3.out.lt); have k40 := HW4.out.cell 0; have k41 := HW4.out.cell 1; have k42 := HW4.out.cell 2; have k43 := HW4.out.cell 3; have k50 := HW5.out.cell 0; have k51 := HW5.out.cell 1; have k52 := HW5.out.cell 2; have k53 := HW5.out.cell 3; have hl4 := HW4.out.lt; have hl5 := HW5.out.lt; clear hO4 hb hrun hO5 hb5 hS5 ho5)
          | (go_simp; go_at_call 28; have hcall := laid_calls ⟨d0, nd0, cd0⟩ (t.m.all ++ zb) nb1 w5 HS5.out (by have h1 : nd0 = (t.m.all ++ zb).length := HS5.out.1; have h2 : nb1 = t.m.s.length := HT3.out.1.1.1; show nb1 ≤ nd0; rw [h1, h2]; unfold Ar.all; rw [List.length_append, List.length_append]; omega); (with_reducible refine hcall.mono ?_); clear hcall; rintro e w6 ⟨⟨⟨d1, nd1, cd1⟩, ⟨d2, nd2, cd2⟩⟩, rfl, hA, ho, hb⟩; have Hb36 : Hid (Below w3.heap.size w3 w6) := held_next Hb35.out hb; have HA6 := Lib.hid hA; have HO6 : Hid (∀ g, g < w3.heap.size → AOff g ⟨⟨d1, nd1, cd1⟩, ⟨d2, nd2, cd2⟩⟩ ⟨(t.m.all ++ zb).take nb1, (t.m.all ++ zb).drop nb1⟩) := fun g hg => ho g (Nat.lt_of_lt_of_le hg Hb35.out.size) (HO5.out g hg); have HW6 := Lib.hid (HW3.out.later Hb36.out HW3.out.lt); have HZ6 := Lib.hid (HZ3.out.later Hb36.out HZ3.out.lt); have q60 := HW6.out.cell 0; have f60 := HW6.out.free 0; have q61 := HW6.out.cell 1; have f61 := HW6.out.free 1; have q62 := HW6.out.cell 2; have f62 := HW6.out.free 2; have q63 := HW6.out.cell 3; have f63 := HW6.out.free 3; have z0 := HZ6.out.cell 0; have y0 := HZ6.out.free 0; have z1 := HZ6.out.cell 1; have y1 := HZ6.out.free 1; have z2 := HZ6.out.cell 2; have y2 := HZ6.out.free 2; have z3 := HZ6.out.cell 3; have y3 := HZ6.out.free 3; have hlt := HZ6.out.lt; have hlt6 := HW6.out.lt; clear hA ho hb))
      all_goals go_wp2_with fail
      all_goals have hL := tape_left (i := 0) (j := 1) HZ6.out (Nat.succ_ne_self w.heap.size) (.slice d1 nd1 cd1) (.slice d2 nd2 cd2) (.slice d1 nd1 cd1) (.slice d2 nd2 cd2) (.slice b3 nb3 cb3) (.slice b4 nb4 cb4)
      all_goals have k0 := hL.cell 0
      all_goals have k1 := hL.cell 1
      all_goals have k2 := hL.cell 2
      all_goals have k3 := hL.cell 3
      all_goals refine bodyPost_ret (v := .tuple #[.agg #[.slice d1 nd1 cd1, .slice d2 nd2 cd2, .slice b3 nb3 cb3, .slice b4 nb4 cb4], .int .i64 0]) (by simp [results, Try.results8, go_sem, k0, k1, k2, k3]) rfl ?_
      all_goals rw [← wrote_m nb1 (HT3.out.1.1.1)]
      all_goals exact ⟨⟨⟨⟨d1, nd1, cd1⟩, ⟨d2, nd2, cd2⟩⟩, ⟨⟨b3, nb3, cb3⟩, ⟨b4, nb4, cb4⟩⟩⟩, rfl, ⟨⟨HA6.out.1.six (HO6.out _ (by omega)).1 (HO6.out _ (by omega)).1 _ _ _ _ _ _, HA6.out.2.six (HO6.out _ (by omega)).2 (HO6.out _ (by omega)).2 _ _ _ _ _ _⟩, ⟨(HT3.out.2.1.later Hb36.out).six (HO.out _ (by omega)).2.1 (HO.out _ hsa).2.1 _ _ _ _ _ _, (HT3.out.2.2.later Hb36.out).six (HO.out _ (by omega)).2.2 (HO.out _ hsa).2.2 _ _ _ _ _ _⟩⟩, fun g hg _ => ⟨HO6.out g (by have := Hs3.out; omega), (HO.out g (by omega)).2⟩, below_six (held_next Hb3.out Hb36.out) (Nat.le_refl _) (Nat.le_succ _) _ _ _ _ _ _⟩
  · have hgt : 65536 - (zt : Int) < (n5 : Int) := by omega
    obtain rfl : res = (t, 6) := HR.out.trans (if_neg (by simpa using hbig))
    clear hbig
    have z0 := HZa.out.cell 0
    have z1 := HZa.out.cell 1
    have z2 := HZa.out.cell 2
    have z3 := HZa.out.cell 3
    have y0 := HZa.out.free 0
    have y1 := HZa.out.free 1
    have y2 := HZa.out.free 2
    have y3 := HZa.out.free 3
    go_wp2_with fail
    have hL := tape_left4 HZa.out (.slice a1 na1 ca1) (.slice a2 na2 ca2) (.slice a3 na3 ca3) (.slice a4 na4 ca4)
    have k0 := hL.cell 0
    have k1 := hL.cell 1
    have k2 := hL.cell 2
    have k3 := hL.cell 3
    refine bodyPost_ret (v := .tuple #[.agg #[.slice a1 na1 ca1, .slice a2 na2 ca2, .slice a3 na3 ca3, .slice a4 na4 ca4], .int .i64 6]) (by simp [results, Try.results8, go_sem, k0, k1, k2, k3]) rfl ?_
    exact ⟨⟨⟨⟨a1, na1, ca1⟩, ⟨a2, na2, ca2⟩⟩, ⟨⟨a3, na3, ca3⟩, ⟨a4, na4, ca4⟩⟩⟩, rfl, (H.out.later Hba.out).four (H.out.off (Nat.le_succ _)) _ _ _ _, fun g hg h => h.1, below_four Hba.out (Nat.le_succ _) _ _ _ _⟩
end Go.Proofs.Ytokdppjpgeaiiaa
