/- Law WantGoes, walked: kept one by one a list has the estimate of all; much is at most 2^40 times one more than often; behind 64 zeros both are 0. The law itself is stated in WantCards. -/
import Derived.Test.YtbcmoepbegbnpaaWantAwake
namespace Go.Proofs.Ytbcmoepbegbnpaa
open Go.RowKit

set_option maxRecDepth 100000 in
set_option maxHeartbeats 8000000 in
theorem wantgoes_law (a : Option Addr) (m cp : Nat) (l : List Int) (hm : m = l.length) (w : World) (hB : Nums w (.slice a m cp) l) :
    Calls Try.prog 4 #[.slice a m cp] w (Says w true) := by
  have hbig : m ≤ 9223372036854775807 := by rw [hm]; exact hB.1
  have HB := Lib.hid hB; clear hB
  have Hm := Lib.hid hm; clear hm
  go_enter Try.func4, Try.ntmps4
  go_wp2_with fail
  refine (awake12 _).mono ?_
  rintro e w1 ⟨rfl, hb⟩
  have Hb1 := Lib.hid hb
  clear hb
  by_cases hbg : 300 < m
  · go_wp2_with fail
    go_ret
    exact ⟨by rfl, Hb1.out⟩
  have hs : m ≤ 300 := by omega
  clear hbg
  go_wp2_with fail
  go_loopw [3, 4] (fun s i wr => ∃ (k n : Nat) (A : Option Addr) (C : Nat), k ≤ m ∧ s = .slice A n C ∧ i = .int .i64 k ∧ Hid (n = (lastN (l.take k)).length) ∧ Hid (Nums wr (.slice A n C) (lastN (l.take k))) ∧ Hid (Below w.heap.size w wr)) (fun _ i _ => m - (intOf i).toNat)
  case atStart => exact ⟨0, 0, none, 0, Nat.zero_le _, rfl, rfl, rfl, elems_nil _ _ _ _ _ (fun _ => rfl), Hb1.out⟩
  case round =>
    obtain ⟨k, n, A, C, hk, rfl, rfl, Hn, HN, Hb⟩ := hrel
    have hn64 := lastN_le (l.take k)
    rw [← Hn.out] at hn64
    by_cases hlt : k < m
    · obtain ⟨b, off, rfl, _, c0⟩ := (HB.out.later Hb.out).at (i := k) (by have := Hm.out; omega)
      have k0 : (0 : Int) ≤ (k : Int) := by omega
      have k1 : (k : Int) < (m : Int) := by omega
      have hnext := take_next (l := l) (k := k) (by have := Hm.out; omega)
      obtain ⟨z, Hz⟩ : ∃ z, Hid (l[k]?.getD 0 = z) := ⟨_, rfl⟩
      rw [Hz.out] at c0 hnext
      have hk1 := nKeep_calls A n C (lastN (l.take k)) z Hn.out (by omega) wr HN.out
      rw [hnext] at hk1
      obtain ⟨j, Hj⟩ : ∃ j, Hid ((lastN (l.take (k + 1))).length = j) := ⟨_, rfl⟩
      unfold GaveN at hk1
      rw [Hj.out] at hk1
      have Hk1 := Lib.hid hk1
      clear hk1 hnext
      go_wp2_with fail
      refine Hk1.out.mono ?_
      rintro e w2 ⟨A2, C2, rfl, hn2, hb⟩
      have Hb2 := Lib.hid (held_next Hb.out hb)
      have HN2 := Lib.hid hn2
      clear hb hn2 c0
      go_wp2_with fail
      go_roundw
      case rel => exact ⟨k + 1, j, A2, C2, by omega, rfl, by go_num, Hj.out.symm, HN2.out, Hb2.out⟩
      case measure => simp [intOf]; omega
    · have hkm : k = m := by omega
      have hlk : l.take k = l := by rw [hkm, Hm.out, List.take_length]
      have hbd := estE_bound l
      have hest := estE_last l
      have Hlk := Lib.hid hlk
      clear hkm hlk
      have hj1 := nEst_calls A n C (lastN (l.take k)) Hn.out (by omega) wr HN.out
      rw [Hlk.out, hest] at hj1
      have hj2 := fun w hw => nEst_calls a m cp l Hm.out (by omega) w hw
      have HN' := Lib.hid HN.out
      have Hn' := Lib.hid Hn.out
      rw [Hlk.out] at HN' Hn'
      obtain ⟨E, HE⟩ : ∃ z, Hid (estE l = z) := ⟨_, rfl⟩
      rw [HE.out] at hj1 hj2 hbd
      obtain ⟨ex, ey⟩ := E
      simp only at hbd
      obtain ⟨hx, hy, hxy⟩ := hbd
      have Hj1 := Lib.hid hj1; have Hj2 := Lib.hid hj2
      clear hj1 hj2 hest
      go_wp2_with fail
      refine Hj1.out.mono ?_
      rintro e w2 ⟨rfl, hb⟩
      have Hb2 := Lib.hid (held_next Hb.out hb)
      have HN2 := Lib.hid (HN'.out.later hb)
      clear hb
      go_wp2_with fail
      refine (Hj2.out _ (HB.out.later Hb2.out)).mono ?_
      rintro e w3 ⟨rfl, hb⟩
      have Hb3 := Lib.hid (held_next Hb2.out hb)
      have HN3 := Lib.hid (HN2.out.later hb)
      clear hb
      go_wp2_with fail
      go_loopw [3, 9] (fun s i wr => ∃ (k n : Nat) (A : Option Addr) (C : Nat), k ≤ 64 ∧ s = .slice A n C ∧ i = .int .i64 k ∧ Hid (n = (lastN (l ++ List.replicate k 0)).length) ∧ Hid (Nums wr (.slice A n C) (lastN (l ++ List.replicate k 0))) ∧ Hid (Below w.heap.size w wr)) (fun _ i _ => 64 - (intOf i).toNat)
      case atStart => exact ⟨0, n, A, C, by omega, rfl, rfl, by rw [List.replicate_zero, List.append_nil]; exact Hn'.out, by rw [List.replicate_zero, List.append_nil]; exact HN3.out, Hb3.out⟩
      case round =>
        obtain ⟨i, n2, A2, C2, hi, rfl, rfl, Hn2, HN2, Hb2⟩ := hrel
        have hn264 := lastN_le (l ++ List.replicate i 0)
        rw [← Hn2.out] at hn264
        by_cases hlt2 : i < 64
        · have hk1 := nKeep_calls A2 n2 C2 (lastN (l ++ List.replicate i 0)) 0 Hn2.out (by omega) _ HN2.out
          rw [zeros_next] at hk1
          obtain ⟨R, HR⟩ : ∃ z, Hid (lastN (l ++ List.replicate (i + 1) 0) = z) := ⟨lastN (l ++ List.replicate (i + 1) 0), Lib.hid rfl⟩
          rw [HR.out] at hk1
          obtain ⟨j, Hj⟩ : ∃ j, Hid (R.length = j) := ⟨_, rfl⟩
          unfold GaveN at hk1
          rw [Hj.out] at hk1
          have Hk1 := Lib.hid hk1
          clear hk1
          go_wp2_with fail
          refine Hk1.out.mono ?_
          rintro e w4 ⟨A4, C4, rfl, hn4, hb⟩
          have Hb4 := Lib.hid (held_next Hb2.out hb)
          have HN4 := Lib.hid hn4
          clear hb hn4
          go_wp2_with fail
          go_roundw
          case rel => exact ⟨i + 1, j, A4, C4, by omega, rfl, by go_num, by rw [HR.out]; exact Hj.out.symm, by rw [HR.out]; exact HN4.out, Hb4.out⟩
          case measure => simp [intOf]; omega
        · have hi64 : i = 64 := by omega
          have hj := nEst_calls A2 n2 C2 (lastN (l ++ List.replicate i 0)) Hn2.out (by omega) _ HN2.out
          rw [hi64, est_zeros] at hj
          have Hj := Lib.hid hj
          clear hj hi64
          go_wp2_with fail
          refine Hj.out.mono ?_
          rintro e w4 ⟨rfl, hb⟩
          have Hb4 := Lib.hid (held_next Hb2.out hb)
          clear hb
          go_wp2_with fail
          go_ret
          exact ⟨by rfl, Hb4.out⟩
end Go.Proofs.Ytbcmoepbegbnpaa
