/- RightsKeep, walked. -/
import Derived.Test.YtlhfggnnikmikaaRightsAwake
import Derived.Test.YtlhfggnnikmikaaRefRightsSame
import Derived.Test.YtlhfggnnikmikaaRightsKeepEnds
import Derived.Deep.RegionHeld3
import Derived.BigQuiet
namespace Go.Proofs.Ytlhfggnnikmikaa
open Go.RowKit

set_option maxRecDepth 100000 in
set_option maxHeartbeats 32000000 in
theorem rightskeep_law (c : Cf) (a : Option Addr) (m d : Nat) (l : List Rw) (who tg amount : Int) (W : World) (hm : m = l.length) (hA : Books W (.slice a m d) l) (hR : Reach l) :
    Calls Try.prog 6 #[cfV c, .slice a m d, .int .i64 who, .int .i64 tg, .int .i64 amount] W (Says W true) := by
  have HW0 := Lib.hid (Whole.made W 23 (cfCells c))
  have Hb0 := Lib.hid (below_box W (.cells (cfCells c) 23))
  have HA := Lib.hid hA; clear hA
  have Hm := Lib.hid hm; clear hm
  have Ra := Lib.hid hR; clear hR
  obtain ⟨sa, Hsa⟩ : ∃ z, Hid (shortB l = z) := ⟨_, rfl⟩
  obtain ⟨ok, Hok⟩ : ∃ z, Hid (rightB c l = z) := ⟨_, rfl⟩
  obtain ⟨v, Hv⟩ : ∃ z, Hid (valueV c l = z) := ⟨_, rfl⟩
  obtain ⟨o, Ho⟩ : ∃ z, Hid (ofV c l tg = z) := ⟨_, rfl⟩
  have K1 := Lib.hid (put_keeps c l who amount)
  rw [Hv.out] at K1
  obtain ⟨⟨x1, y1⟩, Hres1⟩ : ∃ z, Hid (putR c l who amount = z) := ⟨_, rfl⟩
  rw [Hres1.out] at K1
  simp only at K1
  obtain ⟨n1, Hl1⟩ : ∃ z, Hid (x1.length = z) := ⟨_, rfl⟩
  have K2 := Lib.hid (take_keeps c l who amount)
  rw [Hv.out] at K2
  obtain ⟨⟨x2, y2⟩, Hres2⟩ : ∃ z, Hid (takeR c l who amount = z) := ⟨_, rfl⟩
  rw [Hres2.out] at K2
  simp only at K2
  obtain ⟨n2, Hl2⟩ : ∃ z, Hid (x2.length = z) := ⟨_, rfl⟩
  have K3 := Lib.hid (move_keeps c l who tg amount)
  rw [Hv.out, Ho.out] at K3
  obtain ⟨⟨x3, y3⟩, Hres3⟩ : ∃ z, Hid (moveR c l who tg amount = z) := ⟨_, rfl⟩
  rw [Hres3.out] at K3
  simp only at K3
  obtain ⟨n3, Hl3⟩ : ∃ z, Hid (x3.length = z) := ⟨_, rfl⟩
  obtain ⟨nn, q, r, p, kk, cc⟩ := c
  go_enter Try.func6, Try.ntmps6
  go_wp2_with fail
  refine (awake5 _).mono ?_
  rintro e w1 ⟨rfl, hb⟩
  have Hb1 := Lib.hid (held_next Hb0.out hb)
  have HW1 := Lib.hid (HW0.out.later hb HW0.out.lt)
  clear hb
  go_wp2_with fail
  refine (refshort_calls a m d l Hm.out Ra.out _ (HA.out.later Hb1.out)).mono ?_
  rintro e w2 ⟨rfl, hb⟩
  rw [Hsa.out]
  have Hb2 := Lib.hid (held_next Hb1.out hb)
  have HW2 := Lib.hid (HW1.out.later hb HW1.out.lt)
  clear hb
  cases sa with
  | false =>
    go_wp2_with fail
    go_ret
    exact ⟨by rfl, Hb2.out⟩
  | true =>
  obtain ⟨d0, d1, d2, d3, d4, d5⟩ := config_cells HW2.out
  simp only at d0 d1 d2 d3 d4 d5
  go_wp2_with fail
  refine (rRight_calls ⟨nn, q, r, p, kk, cc⟩ a m d l Hm.out _ (HA.out.later Hb2.out)).mono ?_
  rintro e w3 ⟨rfl, hb⟩
  rw [Hok.out]
  have Hb3 := Lib.hid (held_next Hb2.out hb)
  have HW3 := Lib.hid (HW2.out.later hb HW2.out.lt)
  clear d0 d1 d2 d3 d4 d5
  clear hb
  cases ok with
  | false =>
    go_wp2_with fail
    go_ret
    exact ⟨by rfl, Hb3.out⟩
  | true =>
  obtain ⟨d0, d1, d2, d3, d4, d5⟩ := config_cells HW3.out
  simp only at d0 d1 d2 d3 d4 d5
  go_wp2_with fail
  refine (rValue_calls ⟨nn, q, r, p, kk, cc⟩ a m d l Hm.out _ (HA.out.later Hb3.out)).mono ?_
  rintro e w4 ⟨rfl, hb⟩
  rw [Hv.out]
  have Hb4 := Lib.hid (held_next Hb3.out hb)
  have HW4 := Lib.hid (HW3.out.later hb HW3.out.lt)
  clear d0 d1 d2 d3 d4 d5
  clear hb
  have hok := rightB_ok Hok.out
  have h16 : m ≤ 16 := by have := hok.len; have := Hm.out; omega
  have hnm : nn = (m : Int) := by have e1 : (l.length : Int) = nn := hok.2.1; have := Hm.out; omega
  have hv0 : 0 ≤ v := by rw [← Hv.out, value_of hok]; exact sum_up hok _ (Nat.le_refl _)
  have hv1 : v ≤ 1125899906842624 * 17 * 16 := by have h := (sumRights_bound (c := ⟨nn, q, r, p, kk, cc⟩) hok.fits hok.len l.length (Nat.le_refl _)).2; rw [← value_of hok, Hv.out] at h; have := hok.len; omega
  have ho : -(1125899906842624 * 17) ≤ o ∧ o ≤ 1125899906842624 * 17 := by
    rw [← Ho.out]
    unfold ofV
    split
    · rename_i h
      exact rightsV_bound hok.fits hok.len (by have e0 := h.2.1; have e1 : tg < nn := h.2.2; have e2 : (l.length : Int) = nn := hok.2.1; omega)
    · decide
  obtain ⟨ho0, ho1⟩ := ho
  have HOk := Lib.hid hok
  clear hok
  subst hnm
  go_wp2_with fail
  go_loopw [12, 13] (fun t i wr => ∃ (k : Nat) (T : Int), k ≤ m ∧ i = .int .i64 k ∧ t = .int .i64 T ∧ Hid (T = sumRights ⟨m, q, r, p, kk, cc⟩ l k) ∧ Hid (Below W.heap.size W wr) ∧ Hid (Whole wr W.heap.size 23 (cfCells ⟨m, q, r, p, kk, cc⟩))) (fun _ i _ => m - (intOf i).toNat)
  case atStart => exact ⟨0, 0, Nat.zero_le _, rfl, rfl, rfl, Hb4.out, HW4.out⟩
  case round =>
    obtain ⟨k, T, hk, rfl, rfl, HT, Hb5, HW5⟩ := hrel
    by_cases hlt : k < m
    · obtain ⟨d0, d1, d2, d3, d4, d5⟩ := config_cells HW5.out
      simp only at d0 d1 d2 d3 d4 d5
      obtain ⟨x, Hx⟩ : ∃ z, Hid (rightsV ⟨m, q, r, p, kk, cc⟩ l k = z) := ⟨_, rfl⟩
      have hxb := rightsV_bound (c := ⟨m, q, r, p, kk, cc⟩) HOk.out.fits HOk.out.len (who := k) (by have := Hm.out; omega)
      rw [Hx.out] at hxb
      have hTb := sumRights_bound (c := ⟨m, q, r, p, kk, cc⟩) HOk.out.fits HOk.out.len k (by have := Hm.out; omega)
      rw [← HT.out] at hTb
      have hT0 : -(1125899906842624 * 17 * 16) ≤ T := by omega
      have hT1 : T ≤ 1125899906842624 * 17 * 16 := by omega
      obtain ⟨hx0, hx1⟩ := hxb
      clear hTb
      have Hxo : Hid (ofV ⟨m, q, r, p, kk, cc⟩ l k = x) := by rw [← Hx.out]; exact if_pos ⟨HOk.out, by omega, by show (k : Int) < (m : Int); omega⟩
      go_wp2_with fail
      refine (rOf_calls ⟨m, q, r, p, kk, cc⟩ a m d l k Hm.out _ (HA.out.later Hb5.out)).mono ?_
      rintro e w6 ⟨rfl, hb⟩
      rw [Hxo.out]
      have Hb6 := Lib.hid (held_next Hb5.out hb)
      have HW6 := Lib.hid (HW5.out.later hb HW5.out.lt)
      clear hb d0 d1 d2 d3 d4 d5
      go_wp2_with fail
      go_roundw
      case rel => exact ⟨k + 1, T + x, by omega, by go_num, rfl, show _ = _ by rw [HT.out, ← Hx.out]; rfl, Hb6.out, HW6.out⟩
      case measure => simp [intOf]; omega
    · have hTv : T = v := by
        have hkm : k = m := by omega
        rw [HT.out, hkm, ← Hv.out, value_of HOk.out, ← Hm.out]
      subst hTv
      obtain ⟨d0, d1, d2, d3, d4, d5⟩ := config_cells HW5.out
      simp only at d0 d1 d2 d3 d4 d5
      go_wp2_with fail
      refine (rPut_calls ⟨m, q, r, p, kk, cc⟩ a m d l who amount Hm.out _ (HA.out.later Hb5.out)).mono ?_
      rw [Hres1.out]
      rintro e w6 ⟨AX1, CX1, rfl, hX, hb⟩
      simp only at hX ⊢
      rw [Hl1.out] at hX ⊢
      have X1_6 := Lib.hid hX
      clear hX
      have Hb6 := Lib.hid (held_next Hb5.out hb)
      have HW6 := Lib.hid (HW5.out.later hb HW5.out.lt)
      clear d0 d1 d2 d3 d4 d5
      clear hb
      obtain ⟨d0, d1, d2, d3, d4, d5⟩ := config_cells HW6.out
      simp only at d0 d1 d2 d3 d4 d5
      go_wp2_with fail
      refine (rTake_calls ⟨m, q, r, p, kk, cc⟩ a m d l who amount Hm.out _ (HA.out.later Hb6.out)).mono ?_
      rw [Hres2.out]
      rintro e w7 ⟨AX2, CX2, rfl, hX, hb⟩
      simp only at hX ⊢
      rw [Hl2.out] at hX ⊢
      have X2_7 := Lib.hid hX
      clear hX
      have Hb7 := Lib.hid (held_next Hb6.out hb)
      have HW7 := Lib.hid (HW6.out.later hb HW6.out.lt)
      have X1_7 := Lib.hid (X1_6.out.later hb)
      clear d0 d1 d2 d3 d4 d5
      clear hb
      obtain ⟨d0, d1, d2, d3, d4, d5⟩ := config_cells HW7.out
      simp only at d0 d1 d2 d3 d4 d5
      go_wp2_with fail
      refine (rMove_calls ⟨m, q, r, p, kk, cc⟩ a m d l who tg amount Hm.out _ (HA.out.later Hb7.out)).mono ?_
      rw [Hres3.out]
      rintro e w8 ⟨AX3, CX3, rfl, hX, hb⟩
      simp only at hX ⊢
      rw [Hl3.out] at hX ⊢
      have X3_8 := Lib.hid hX
      clear hX
      have Hb8 := Lib.hid (held_next Hb7.out hb)
      have HW8 := Lib.hid (HW7.out.later hb HW7.out.lt)
      have X1_8 := Lib.hid (X1_7.out.later hb)
      have X2_8 := Lib.hid (X2_7.out.later hb)
      clear d0 d1 d2 d3 d4 d5
      clear hb
      have K1' := K1.out
      clear K1
      rcases K1' with K1' | K1'
      · obtain ⟨rfl, ⟨hm0, hm1⟩, hr1, hv1'⟩ := K1'
        have Hr1 := Lib.hid (show rightB ⟨m, q, r, p, kk, cc⟩ x1 = true from decide_eq_true hr1)
        have Hv1 := Lib.hid hv1'
        clear hr1 hv1'
        obtain ⟨d0, d1, d2, d3, d4, d5⟩ := config_cells HW8.out
        simp only at d0 d1 d2 d3 d4 d5
        go_wp2_with fail
        refine (refright_calls ⟨m, q, r, p, kk, cc⟩ AX1 n1 CX1 x1 Hl1.out.symm _ X1_8.out).mono ?_
        rintro e w9 ⟨rfl, hb⟩
        rw [Hr1.out]
        have Hb9 := Lib.hid (held_next Hb8.out hb)
        have HW9 := Lib.hid (HW8.out.later hb HW8.out.lt)
        have X1_9 := Lib.hid (X1_8.out.later hb)
        have X2_9 := Lib.hid (X2_8.out.later hb)
        have X3_9 := Lib.hid (X3_8.out.later hb)
        clear d0 d1 d2 d3 d4 d5
        clear hb
        obtain ⟨d0, d1, d2, d3, d4, d5⟩ := config_cells HW9.out
        simp only at d0 d1 d2 d3 d4 d5
        go_wp2_with fail
        refine (rValue_calls ⟨m, q, r, p, kk, cc⟩ AX1 n1 CX1 x1 Hl1.out.symm _ X1_9.out).mono ?_
        rintro e w10 ⟨rfl, hb⟩
        rw [Hv1.out]
        have Hb10 := Lib.hid (held_next Hb9.out hb)
        have HW10 := Lib.hid (HW9.out.later hb HW9.out.lt)
        have X1_10 := Lib.hid (X1_9.out.later hb)
        have X2_10 := Lib.hid (X2_9.out.later hb)
        have X3_10 := Lib.hid (X3_9.out.later hb)
        clear d0 d1 d2 d3 d4 d5
        clear hb
        have K2' := K2.out
        clear K2
        rcases K2' with K2' | K2'
        · obtain ⟨rfl, ⟨hm0, hm1⟩, hr2, hv2'⟩ := K2'
          have Hr2 := Lib.hid (show rightB ⟨m, q, r, p, kk, cc⟩ x2 = true from decide_eq_true hr2)
          have Hv2 := Lib.hid hv2'
          clear hr2 hv2'
          obtain ⟨d0, d1, d2, d3, d4, d5⟩ := config_cells HW10.out
          simp only at d0 d1 d2 d3 d4 d5
          go_wp2_with fail
          refine (refright_calls ⟨m, q, r, p, kk, cc⟩ AX2 n2 CX2 x2 Hl2.out.symm _ X2_10.out).mono ?_
          rintro e w11 ⟨rfl, hb⟩
          rw [Hr2.out]
          have Hb11 := Lib.hid (held_next Hb10.out hb)
          have HW11 := Lib.hid (HW10.out.later hb HW10.out.lt)
          have X1_11 := Lib.hid (X1_10.out.later hb)
          have X2_11 := Lib.hid (X2_10.out.later hb)
          have X3_11 := Lib.hid (X3_10.out.later hb)
          clear d0 d1 d2 d3 d4 d5
          clear hb
          obtain ⟨d0, d1, d2, d3, d4, d5⟩ := config_cells HW11.out
          simp only at d0 d1 d2 d3 d4 d5
          go_wp2_with fail
          refine (rValue_calls ⟨m, q, r, p, kk, cc⟩ AX2 n2 CX2 x2 Hl2.out.symm _ X2_11.out).mono ?_
          rintro e w12 ⟨rfl, hb⟩
          rw [Hv2.out]
          have Hb12 := Lib.hid (held_next Hb11.out hb)
          have HW12 := Lib.hid (HW11.out.later hb HW11.out.lt)
          have X1_12 := Lib.hid (X1_11.out.later hb)
          have X2_12 := Lib.hid (X2_11.out.later hb)
          have X3_12 := Lib.hid (X3_11.out.later hb)
          clear d0 d1 d2 d3 d4 d5
          clear hb
          have K3' := K3.out
          clear K3
          rcases K3' with K3' | K3'
          · obtain ⟨rfl, ⟨hm0, hm1⟩, hr3, hv3', ho3'⟩ := K3'
            have Hr3 := Lib.hid (show rightB ⟨m, q, r, p, kk, cc⟩ x3 = true from decide_eq_true hr3)
            have Hv3 := Lib.hid hv3'
            have Ho3 := Lib.hid ho3'
            clear hr3 hv3' ho3'
            have Hww : Hid (IntKind.i64.wrap (o + amount) = o + amount) := IntWalk.i64_in _ (by omega)
            obtain ⟨wz, Hwz, HWz, HXz, Hnow⟩ : ∃ wz, Hid (Below W.heap.size W wz) ∧ Hid (Whole wz W.heap.size 23 (cfCells ⟨m, q, r, p, kk, cc⟩)) ∧ Hid (Books wz (.slice AX3 n3 CX3) x3) ∧ wz = w12 := ⟨w12, Hb12.out, HW12.out, X3_12.out, rfl⟩
            subst Hnow
            have KP : Hid (∀ w', Below wz.heap.size wz w' → Below wz.heap.size wz w' ∧ w'.cell? ⟨W.heap.size, 0, none⟩ = some (.int .i64 (m : Int)) ∧ w'.cell? ⟨W.heap.size, 1, none⟩ = some (.int .i64 q) ∧ w'.cell? ⟨W.heap.size, 2, none⟩ = some (.int .i64 r) ∧ w'.cell? ⟨W.heap.size, 3, none⟩ = some (.int .i64 p) ∧ w'.cell? ⟨W.heap.size, 4, none⟩ = some (.int .i64 kk) ∧ w'.cell? ⟨W.heap.size, 5, none⟩ = some (.int .i64 cc)) := fun w' h => ⟨h, config_cells (HWz.out.later h HWz.out.lt)⟩
            have OR : Hid (∀ w', Below wz.heap.size wz w' → Calls Try.prog 19 #[cfV ⟨m, q, r, p, kk, cc⟩, .slice AX3 n3 CX3] w' (Says w' true)) := by rw [← Hr3.out]; exact fun w' h => refright_calls _ AX3 n3 CX3 x3 Hl3.out.symm w' (HXz.out.later h)
            have OV : Hid (∀ w', Below wz.heap.size wz w' → Calls Try.prog 22 #[cfV ⟨m, q, r, p, kk, cc⟩, .slice AX3 n3 CX3] w' (Num w' T)) := fun w' h => (rValue_calls _ AX3 n3 CX3 x3 Hl3.out.symm w' (HXz.out.later h)).mono fun _ _ h2 => by rw [Hv3.out] at h2; exact h2
            have OX : Hid (∀ w', Below wz.heap.size wz w' → Calls Try.prog 20 #[cfV ⟨m, q, r, p, kk, cc⟩, .slice AX3 n3 CX3, .int .i64 tg] w' (Num w' (o + amount))) := fun w' h => (rOf_calls _ AX3 n3 CX3 x3 tg Hl3.out.symm w' (HXz.out.later h)).mono fun _ _ h2 => by rw [Ho3.out] at h2; exact h2
            have OL : Hid (∀ w', Below wz.heap.size wz w' → Calls Try.prog 20 #[cfV ⟨m, q, r, p, kk, cc⟩, .slice a m d, .int .i64 tg] w' (Num w' o)) := fun w' h => (rOf_calls _ a m d l tg Hm.out w' ((HA.out.later Hwz.out).later h)).mono fun _ _ h2 => by rw [Ho.out] at h2; exact h2
            go_wp2_with fail
            go_region_held3 (fun w' => Below wz.heap.size wz w' ∧ w'.cell? ⟨W.heap.size, 0, none⟩ = some (.int .i64 (m : Int)) ∧ w'.cell? ⟨W.heap.size, 1, none⟩ = some (.int .i64 q) ∧ w'.cell? ⟨W.heap.size, 2, none⟩ = some (.int .i64 r) ∧ w'.cell? ⟨W.heap.size, 3, none⟩ = some (.int .i64 p) ∧ w'.cell? ⟨W.heap.size, 4, none⟩ = some (.int .i64 kk) ∧ w'.cell? ⟨W.heap.size, 5, none⟩ = some (.int .i64 cc))
              (first | exact KP.out _ (Below.refl _ _).drew | (refine KP.out _ ?_; assumption))
              (first | (go_at_call 19; have hcur := (‹Below wz.heap.size wz _ ∧ _ ∧ _›).1; have hcall := OR.out _ hcur; (with_reducible refine hcall.mono ?_); rintro ee wn ⟨rfl, hb⟩; have hS := held_next hcur hb; clear hb hcall) | (go_at_call 22; have hcur := (‹Below wz.heap.size wz _ ∧ _ ∧ _›).1; have hcall := OV.out _ hcur; (with_reducible refine hcall.mono ?_); rintro ee wn ⟨rfl, hb⟩; have hS := held_next hcur hb; clear hb hcall) | (go_at_call 20; have hcur := (‹Below wz.heap.size wz _ ∧ _ ∧ _›).1; have hcall := OX.out _ hcur; (with_reducible refine hcall.mono ?_); rintro ee wn ⟨rfl, hb⟩; have hS := held_next hcur hb; clear hb hcall) | (go_at_call 20; have hcur := (‹Below wz.heap.size wz _ ∧ _ ∧ _›).1; have hcall := OL.out _ hcur; (with_reducible refine hcall.mono ?_); rintro ee wn ⟨rfl, hb⟩; have hS := held_next hcur hb; clear hb hcall))
            go_wp2_with fail
            go_ret
            exact ⟨by simp; exact Hww.out.symm, held_next Hwz.out (‹Below wz.heap.size wz _ ∧ _ ∧ _›).1⟩
          · have hy3 : (y3 != 0) = true := bne_iff_ne.2 K3'
            go_wp2_with fail
            go_quiet (fail)
            go_wp2_with fail
            go_ret
            exact ⟨by rfl, below_drewN Hb12.out _⟩
        · have hy2 : (y2 == 0) = false := beq_eq_false_iff_ne.2 K2'
          have K3' := K3.out
          clear K3
          rcases K3' with K3' | K3'
          · obtain ⟨rfl, ⟨hm0, hm1⟩, hr3, hv3', ho3'⟩ := K3'
            have Hr3 := Lib.hid (show rightB ⟨m, q, r, p, kk, cc⟩ x3 = true from decide_eq_true hr3)
            have Hv3 := Lib.hid hv3'
            have Ho3 := Lib.hid ho3'
            clear hr3 hv3' ho3'
            have Hww : Hid (IntKind.i64.wrap (o + amount) = o + amount) := IntWalk.i64_in _ (by omega)
            obtain ⟨wz, Hwz, HWz, HXz, Hnow⟩ : ∃ wz, Hid (Below W.heap.size W wz) ∧ Hid (Whole wz W.heap.size 23 (cfCells ⟨m, q, r, p, kk, cc⟩)) ∧ Hid (Books wz (.slice AX3 n3 CX3) x3) ∧ wz = w10 := ⟨w10, Hb10.out, HW10.out, X3_10.out, rfl⟩
            subst Hnow
            have KP : Hid (∀ w', Below wz.heap.size wz w' → Below wz.heap.size wz w' ∧ w'.cell? ⟨W.heap.size, 0, none⟩ = some (.int .i64 (m : Int)) ∧ w'.cell? ⟨W.heap.size, 1, none⟩ = some (.int .i64 q) ∧ w'.cell? ⟨W.heap.size, 2, none⟩ = some (.int .i64 r) ∧ w'.cell? ⟨W.heap.size, 3, none⟩ = some (.int .i64 p) ∧ w'.cell? ⟨W.heap.size, 4, none⟩ = some (.int .i64 kk) ∧ w'.cell? ⟨W.heap.size, 5, none⟩ = some (.int .i64 cc)) := fun w' h => ⟨h, config_cells (HWz.out.later h HWz.out.lt)⟩
            have OR : Hid (∀ w', Below wz.heap.size wz w' → Calls Try.prog 19 #[cfV ⟨m, q, r, p, kk, cc⟩, .slice AX3 n3 CX3] w' (Says w' true)) := by rw [← Hr3.out]; exact fun w' h => refright_calls _ AX3 n3 CX3 x3 Hl3.out.symm w' (HXz.out.later h)
            have OV : Hid (∀ w', Below wz.heap.size wz w' → Calls Try.prog 22 #[cfV ⟨m, q, r, p, kk, cc⟩, .slice AX3 n3 CX3] w' (Num w' T)) := fun w' h => (rValue_calls _ AX3 n3 CX3 x3 Hl3.out.symm w' (HXz.out.later h)).mono fun _ _ h2 => by rw [Hv3.out] at h2; exact h2
            have OX : Hid (∀ w', Below wz.heap.size wz w' → Calls Try.prog 20 #[cfV ⟨m, q, r, p, kk, cc⟩, .slice AX3 n3 CX3, .int .i64 tg] w' (Num w' (o + amount))) := fun w' h => (rOf_calls _ AX3 n3 CX3 x3 tg Hl3.out.symm w' (HXz.out.later h)).mono fun _ _ h2 => by rw [Ho3.out] at h2; exact h2
            have OL : Hid (∀ w', Below wz.heap.size wz w' → Calls Try.prog 20 #[cfV ⟨m, q, r, p, kk, cc⟩, .slice a m d, .int .i64 tg] w' (Num w' o)) := fun w' h => (rOf_calls _ a m d l tg Hm.out w' ((HA.out.later Hwz.out).later h)).mono fun _ _ h2 => by rw [Ho.out] at h2; exact h2
            go_wp2_with fail
            go_region_held3 (fun w' => Below wz.heap.size wz w' ∧ w'.cell? ⟨W.heap.size, 0, none⟩ = some (.int .i64 (m : Int)) ∧ w'.cell? ⟨W.heap.size, 1, none⟩ = some (.int .i64 q) ∧ w'.cell? ⟨W.heap.size, 2, none⟩ = some (.int .i64 r) ∧ w'.cell? ⟨W.heap.size, 3, none⟩ = some (.int .i64 p) ∧ w'.cell? ⟨W.heap.size, 4, none⟩ = some (.int .i64 kk) ∧ w'.cell? ⟨W.heap.size, 5, none⟩ = some (.int .i64 cc))
              (first | exact KP.out _ (Below.refl _ _).drew | (refine KP.out _ ?_; assumption))
              (first | (go_at_call 19; have hcur := (‹Below wz.heap.size wz _ ∧ _ ∧ _›).1; have hcall := OR.out _ hcur; (with_reducible refine hcall.mono ?_); rintro ee wn ⟨rfl, hb⟩; have hS := held_next hcur hb; clear hb hcall) | (go_at_call 22; have hcur := (‹Below wz.heap.size wz _ ∧ _ ∧ _›).1; have hcall := OV.out _ hcur; (with_reducible refine hcall.mono ?_); rintro ee wn ⟨rfl, hb⟩; have hS := held_next hcur hb; clear hb hcall) | (go_at_call 20; have hcur := (‹Below wz.heap.size wz _ ∧ _ ∧ _›).1; have hcall := OX.out _ hcur; (with_reducible refine hcall.mono ?_); rintro ee wn ⟨rfl, hb⟩; have hS := held_next hcur hb; clear hb hcall) | (go_at_call 20; have hcur := (‹Below wz.heap.size wz _ ∧ _ ∧ _›).1; have hcall := OL.out _ hcur; (with_reducible refine hcall.mono ?_); rintro ee wn ⟨rfl, hb⟩; have hS := held_next hcur hb; clear hb hcall))
            go_wp2_with fail
            go_ret
            exact ⟨by simp; exact Hww.out.symm, held_next Hwz.out (‹Below wz.heap.size wz _ ∧ _ ∧ _›).1⟩
          · have hy3 : (y3 != 0) = true := bne_iff_ne.2 K3'
            go_wp2_with fail
            go_quiet (fail)
            go_wp2_with fail
            go_ret
            exact ⟨by rfl, below_drewN Hb10.out _⟩
      · have hy1 : (y1 == 0) = false := beq_eq_false_iff_ne.2 K1'
        have K2' := K2.out
        clear K2
        rcases K2' with K2' | K2'
        · obtain ⟨rfl, ⟨hm0, hm1⟩, hr2, hv2'⟩ := K2'
          have Hr2 := Lib.hid (show rightB ⟨m, q, r, p, kk, cc⟩ x2 = true from decide_eq_true hr2)
          have Hv2 := Lib.hid hv2'
          clear hr2 hv2'
          obtain ⟨d0, d1, d2, d3, d4, d5⟩ := config_cells HW8.out
          simp only at d0 d1 d2 d3 d4 d5
          go_wp2_with fail
          refine (refright_calls ⟨m, q, r, p, kk, cc⟩ AX2 n2 CX2 x2 Hl2.out.symm _ X2_8.out).mono ?_
          rintro e w9 ⟨rfl, hb⟩
          rw [Hr2.out]
          have Hb9 := Lib.hid (held_next Hb8.out hb)
          have HW9 := Lib.hid (HW8.out.later hb HW8.out.lt)
          have X1_9 := Lib.hid (X1_8.out.later hb)
          have X2_9 := Lib.hid (X2_8.out.later hb)
          have X3_9 := Lib.hid (X3_8.out.later hb)
          clear d0 d1 d2 d3 d4 d5
          clear hb
          obtain ⟨d0, d1, d2, d3, d4, d5⟩ := config_cells HW9.out
          simp only at d0 d1 d2 d3 d4 d5
          go_wp2_with fail
          refine (rValue_calls ⟨m, q, r, p, kk, cc⟩ AX2 n2 CX2 x2 Hl2.out.symm _ X2_9.out).mono ?_
          rintro e w10 ⟨rfl, hb⟩
          rw [Hv2.out]
          have Hb10 := Lib.hid (held_next Hb9.out hb)
          have HW10 := Lib.hid (HW9.out.later hb HW9.out.lt)
          have X1_10 := Lib.hid (X1_9.out.later hb)
          have X2_10 := Lib.hid (X2_9.out.later hb)
          have X3_10 := Lib.hid (X3_9.out.later hb)
          clear d0 d1 d2 d3 d4 d5
          clear hb
          have K3' := K3.out
          clear K3
          rcases K3' with K3' | K3'
          · obtain ⟨rfl, ⟨hm0, hm1⟩, hr3, hv3', ho3'⟩ := K3'
            have Hr3 := Lib.hid (show rightB ⟨m, q, r, p, kk, cc⟩ x3 = true from decide_eq_true hr3)
            have Hv3 := Lib.hid hv3'
            have Ho3 := Lib.hid ho3'
            clear hr3 hv3' ho3'
            have Hww : Hid (IntKind.i64.wrap (o + amount) = o + amount) := IntWalk.i64_in _ (by omega)
            obtain ⟨wz, Hwz, HWz, HXz, Hnow⟩ : ∃ wz, Hid (Below W.heap.size W wz) ∧ Hid (Whole wz W.heap.size 23 (cfCells ⟨m, q, r, p, kk, cc⟩)) ∧ Hid (Books wz (.slice AX3 n3 CX3) x3) ∧ wz = w10 := ⟨w10, Hb10.out, HW10.out, X3_10.out, rfl⟩
            subst Hnow
            have KP : Hid (∀ w', Below wz.heap.size wz w' → Below wz.heap.size wz w' ∧ w'.cell? ⟨W.heap.size, 0, none⟩ = some (.int .i64 (m : Int)) ∧ w'.cell? ⟨W.heap.size, 1, none⟩ = some (.int .i64 q) ∧ w'.cell? ⟨W.heap.size, 2, none⟩ = some (.int .i64 r) ∧ w'.cell? ⟨W.heap.size, 3, none⟩ = some (.int .i64 p) ∧ w'.cell? ⟨W.heap.size, 4, none⟩ = some (.int .i64 kk) ∧ w'.cell? ⟨W.heap.size, 5, none⟩ = some (.int .i64 cc)) := fun w' h => ⟨h, config_cells (HWz.out.later h HWz.out.lt)⟩
            have OR : Hid (∀ w', Below wz.heap.size wz w' → Calls Try.prog 19 #[cfV ⟨m, q, r, p, kk, cc⟩, .slice AX3 n3 CX3] w' (Says w' true)) := by rw [← Hr3.out]; exact fun w' h => refright_calls _ AX3 n3 CX3 x3 Hl3.out.symm w' (HXz.out.later h)
            have OV : Hid (∀ w', Below wz.heap.size wz w' → Calls Try.prog 22 #[cfV ⟨m, q, r, p, kk, cc⟩, .slice AX3 n3 CX3] w' (Num w' T)) := fun w' h => (rValue_calls _ AX3 n3 CX3 x3 Hl3.out.symm w' (HXz.out.later h)).mono fun _ _ h2 => by rw [Hv3.out] at h2; exact h2
            have OX : Hid (∀ w', Below wz.heap.size wz w' → Calls Try.prog 20 #[cfV ⟨m, q, r, p, kk, cc⟩, .slice AX3 n3 CX3, .int .i64 tg] w' (Num w' (o + amount))) := fun w' h => (rOf_calls _ AX3 n3 CX3 x3 tg Hl3.out.symm w' (HXz.out.later h)).mono fun _ _ h2 => by rw [Ho3.out] at h2; exact h2
            have OL : Hid (∀ w', Below wz.heap.size wz w' → Calls Try.prog 20 #[cfV ⟨m, q, r, p, kk, cc⟩, .slice a m d, .int .i64 tg] w' (Num w' o)) := fun w' h => (rOf_calls _ a m d l tg Hm.out w' ((HA.out.later Hwz.out).later h)).mono fun _ _ h2 => by rw [Ho.out] at h2; exact h2
            go_wp2_with fail
            go_region_held3 (fun w' => Below wz.heap.size wz w' ∧ w'.cell? ⟨W.heap.size, 0, none⟩ = some (.int .i64 (m : Int)) ∧ w'.cell? ⟨W.heap.size, 1, none⟩ = some (.int .i64 q) ∧ w'.cell? ⟨W.heap.size, 2, none⟩ = some (.int .i64 r) ∧ w'.cell? ⟨W.heap.size, 3, none⟩ = some (.int .i64 p) ∧ w'.cell? ⟨W.heap.size, 4, none⟩ = some (.int .i64 kk) ∧ w'.cell? ⟨W.heap.size, 5, none⟩ = some (.int .i64 cc))
              (first | exact KP.out _ (Below.refl _ _).drew | (refine KP.out _ ?_; assumption))
              (first | (go_at_call 19; have hcur := (‹Below wz.heap.size wz _ ∧ _ ∧ _›).1; have hcall := OR.out _ hcur; (with_reducible refine hcall.mono ?_); rintro ee wn ⟨rfl, hb⟩; have hS := held_next hcur hb; clear hb hcall) | (go_at_call 22; have hcur := (‹Below wz.heap.size wz _ ∧ _ ∧ _›).1; have hcall := OV.out _ hcur; (with_reducible refine hcall.mono ?_); rintro ee wn ⟨rfl, hb⟩; have hS := held_next hcur hb; clear hb hcall) | (go_at_call 20; have hcur := (‹Below wz.heap.size wz _ ∧ _ ∧ _›).1; have hcall := OX.out _ hcur; (with_reducible refine hcall.mono ?_); rintro ee wn ⟨rfl, hb⟩; have hS := held_next hcur hb; clear hb hcall) | (go_at_call 20; have hcur := (‹Below wz.heap.size wz _ ∧ _ ∧ _›).1; have hcall := OL.out _ hcur; (with_reducible refine hcall.mono ?_); rintro ee wn ⟨rfl, hb⟩; have hS := held_next hcur hb; clear hb hcall))
            go_wp2_with fail
            go_ret
            exact ⟨by simp; exact Hww.out.symm, held_next Hwz.out (‹Below wz.heap.size wz _ ∧ _ ∧ _›).1⟩
          · have hy3 : (y3 != 0) = true := bne_iff_ne.2 K3'
            go_wp2_with fail
            go_quiet (fail)
            go_wp2_with fail
            go_ret
            exact ⟨by rfl, below_drewN Hb10.out _⟩
        · have hy2 : (y2 == 0) = false := beq_eq_false_iff_ne.2 K2'
          have K3' := K3.out
          clear K3
          rcases K3' with K3' | K3'
          · obtain ⟨rfl, ⟨hm0, hm1⟩, hr3, hv3', ho3'⟩ := K3'
            have Hr3 := Lib.hid (show rightB ⟨m, q, r, p, kk, cc⟩ x3 = true from decide_eq_true hr3)
            have Hv3 := Lib.hid hv3'
            have Ho3 := Lib.hid ho3'
            clear hr3 hv3' ho3'
            have Hww : Hid (IntKind.i64.wrap (o + amount) = o + amount) := IntWalk.i64_in _ (by omega)
            obtain ⟨wz, Hwz, HWz, HXz, Hnow⟩ : ∃ wz, Hid (Below W.heap.size W wz) ∧ Hid (Whole wz W.heap.size 23 (cfCells ⟨m, q, r, p, kk, cc⟩)) ∧ Hid (Books wz (.slice AX3 n3 CX3) x3) ∧ wz = w8 := ⟨w8, Hb8.out, HW8.out, X3_8.out, rfl⟩
            subst Hnow
            have KP : Hid (∀ w', Below wz.heap.size wz w' → Below wz.heap.size wz w' ∧ w'.cell? ⟨W.heap.size, 0, none⟩ = some (.int .i64 (m : Int)) ∧ w'.cell? ⟨W.heap.size, 1, none⟩ = some (.int .i64 q) ∧ w'.cell? ⟨W.heap.size, 2, none⟩ = some (.int .i64 r) ∧ w'.cell? ⟨W.heap.size, 3, none⟩ = some (.int .i64 p) ∧ w'.cell? ⟨W.heap.size, 4, none⟩ = some (.int .i64 kk) ∧ w'.cell? ⟨W.heap.size, 5, none⟩ = some (.int .i64 cc)) := fun w' h => ⟨h, config_cells (HWz.out.later h HWz.out.lt)⟩
            have OR : Hid (∀ w', Below wz.heap.size wz w' → Calls Try.prog 19 #[cfV ⟨m, q, r, p, kk, cc⟩, .slice AX3 n3 CX3] w' (Says w' true)) := by rw [← Hr3.out]; exact fun w' h => refright_calls _ AX3 n3 CX3 x3 Hl3.out.symm w' (HXz.out.later h)
            have OV : Hid (∀ w', Below wz.heap.size wz w' → Calls Try.prog 22 #[cfV ⟨m, q, r, p, kk, cc⟩, .slice AX3 n3 CX3] w' (Num w' T)) := fun w' h => (rValue_calls _ AX3 n3 CX3 x3 Hl3.out.symm w' (HXz.out.later h)).mono fun _ _ h2 => by rw [Hv3.out] at h2; exact h2
            have OX : Hid (∀ w', Below wz.heap.size wz w' → Calls Try.prog 20 #[cfV ⟨m, q, r, p, kk, cc⟩, .slice AX3 n3 CX3, .int .i64 tg] w' (Num w' (o + amount))) := fun w' h => (rOf_calls _ AX3 n3 CX3 x3 tg Hl3.out.symm w' (HXz.out.later h)).mono fun _ _ h2 => by rw [Ho3.out] at h2; exact h2
            have OL : Hid (∀ w', Below wz.heap.size wz w' → Calls Try.prog 20 #[cfV ⟨m, q, r, p, kk, cc⟩, .slice a m d, .int .i64 tg] w' (Num w' o)) := fun w' h => (rOf_calls _ a m d l tg Hm.out w' ((HA.out.later Hwz.out).later h)).mono fun _ _ h2 => by rw [Ho.out] at h2; exact h2
            go_wp2_with fail
            go_region_held3 (fun w' => Below wz.heap.size wz w' ∧ w'.cell? ⟨W.heap.size, 0, none⟩ = some (.int .i64 (m : Int)) ∧ w'.cell? ⟨W.heap.size, 1, none⟩ = some (.int .i64 q) ∧ w'.cell? ⟨W.heap.size, 2, none⟩ = some (.int .i64 r) ∧ w'.cell? ⟨W.heap.size, 3, none⟩ = some (.int .i64 p) ∧ w'.cell? ⟨W.heap.size, 4, none⟩ = some (.int .i64 kk) ∧ w'.cell? ⟨W.heap.size, 5, none⟩ = some (.int .i64 cc))
              (first | exact KP.out _ (Below.refl _ _).drew | (refine KP.out _ ?_; assumption))
              (first | (go_at_call 19; have hcur := (‹Below wz.heap.size wz _ ∧ _ ∧ _›).1; have hcall := OR.out _ hcur; (with_reducible refine hcall.mono ?_); rintro ee wn ⟨rfl, hb⟩; have hS := held_next hcur hb; clear hb hcall) | (go_at_call 22; have hcur := (‹Below wz.heap.size wz _ ∧ _ ∧ _›).1; have hcall := OV.out _ hcur; (with_reducible refine hcall.mono ?_); rintro ee wn ⟨rfl, hb⟩; have hS := held_next hcur hb; clear hb hcall) | (go_at_call 20; have hcur := (‹Below wz.heap.size wz _ ∧ _ ∧ _›).1; have hcall := OX.out _ hcur; (with_reducible refine hcall.mono ?_); rintro ee wn ⟨rfl, hb⟩; have hS := held_next hcur hb; clear hb hcall) | (go_at_call 20; have hcur := (‹Below wz.heap.size wz _ ∧ _ ∧ _›).1; have hcall := OL.out _ hcur; (with_reducible refine hcall.mono ?_); rintro ee wn ⟨rfl, hb⟩; have hS := held_next hcur hb; clear hb hcall))
            go_wp2_with fail
            go_ret
            exact ⟨by simp; exact Hww.out.symm, held_next Hwz.out (‹Below wz.heap.size wz _ ∧ _ ∧ _›).1⟩
          · have hy3 : (y3 != 0) = true := bne_iff_ne.2 K3'
            go_wp2_with fail
            go_quiet (fail)
            go_wp2_with fail
            go_ret
            exact ⟨by rfl, below_drewN Hb8.out _⟩
end Go.Proofs.Ytlhfggnnikmikaa
