/- Package want: an estimate in floats. No law is proved here. -/
import Derived.Test.YtbcmoepbegbnpaaWantLast
namespace Go.Proofs.Ytbcmoepbegbnpaa
open Go.RowKit

set_option maxRecDepth 100000 in
set_option maxHeartbeats 4000000 in
theorem nEst_calls (a : Option Addr) (m d : Nat) (l : List Int) (hm : m = l.length) (hs : m ≤ 1000) (w : World) (hA : Nums w (.slice a m d) l) :
    Calls Try.prog 7 #[.slice a m d] w (Told2 w (estE l)) := by
  have HL := Lib.hid (last_calls a m d l hm (by omega) 64 (by decide) (by decide) w hA)
  have hle := lastN_le l
  have hE : estE l = runE (lastN l) := rfl
  have hk : l.drop (m - 64) = lastN l := by unfold lastN; rw [hm]
  rw [hk] at HL
  rw [hE]
  clear hE hk hs
  have HA := Lib.hid hA; clear hA
  have Hm := Lib.hid hm; clear hm
  generalize lastN l = k at *
  obtain ⟨n, Hn⟩ : ∃ z, Hid (k.length = z) := ⟨_, rfl⟩
  rw [Hn.out] at hle HL
  go_enter Try.func7, Try.ntmps7
  go_wp2_with fail
  refine HL.out.mono ?_
  rintro e w1 ⟨A, C, rfl, hN, rfl⟩
  have HN := Lib.hid hN; clear hN
  go_wp2_with fail
  go_loop [4, 10] (fun s4 s10 => ∃ i x y : Nat, i ≤ n ∧ s4 = .complex .f64 (F x 0) (F y 0) ∧ s10 = .int .i64 i ∧ Hid (runE (k.take i) = (x, y))) (fun _ s10 => n - (intOf s10).toNat)
  case atStart => exact ⟨0, 0, 0, Nat.zero_le _, rfl, rfl, rfl⟩
  case round =>
    obtain ⟨i, x, y, hi, rfl, rfl, Hr⟩ := hrel
    have hbd := run_part_bound (l := k) (j := 0) (k := i) (by omega)
    rw [List.drop_zero, Hr.out] at hbd
    obtain ⟨hx, hy⟩ := hbd
    simp only at hx hy
    by_cases hlt : i < n
    · obtain ⟨b, off, rfl, _, c0⟩ := HN.out.at (i := i) (by have := Hn.out; omega)
      have hnext := run_part (l := k) (j := 0) (k := i) (Nat.zero_le _) (show i < k.length by have := Hn.out; omega)
      rw [List.drop_zero, List.drop_zero, Hr.out] at hnext
      obtain ⟨z, Hz⟩ : ∃ z, Hid (k[i]?.getD 0 = z) := ⟨_, rfl⟩
      rw [Hz.out] at c0 hnext
      have Hnext := Lib.hid hnext; clear hnext
      by_cases hz0 : z = 0
      · subst hz0
        have hnx := Hnext.out
        rw [stepE_zero] at hnx
        have Hnx := Lib.hid hnx; clear hnx
        have hq := fun W => run_complex_half (P := Try.prog) W 31 (x := x) (y := y) (by omega) (by omega)
        have HD := Lib.hid (fun W => down_calls x y (by omega) (by omega) W)
        go_wp2_with fail
        refine (HD.out _).mono ?_
        rintro e w2 ⟨rfl, rfl⟩
        go_wp2_with fail
        go_round
        case rel => exact ⟨i + 1, x / 2, y / 2, by omega, rfl, by go_num, Hnx.out⟩
        case measure => simp [intOf]; omega
      · have hz0' : (z == 0) = false := beq_eq_false_iff_ne.2 hz0
        by_cases hz1 : 1 ≤ z
        · by_cases hz2 : z ≤ 1099511627776
          · have hnx := Hnext.out
            rw [stepE_in _ hz1 hz2] at hnx
            obtain ⟨q, rfl⟩ : ∃ q : Nat, z = q := ⟨z.toNat, by omega⟩
            rw [Int.toNat_natCast] at hnx
            have Hnx := Lib.hid hnx; clear hnx
            have hof : floatOfInt .f64 (q : Int) = F q 0 := of_int_F q
            have hsum : cSumBits .add .f64 (F x 0) (F y 0) (F q 0) 4607182418800017408 = some (F (x + q) 0, F (y + 1) 0) := by
              unfold cSumBits
              rw [add_F (by omega) (by decide) (by decide), show (4607182418800017408 : Nat) = F 1 0 by decide +kernel, add_F (by omega) (by decide) (by decide)]
              rfl
            have hadd := fun W => run_complex_sum (P := Try.prog) W .add (Or.inl rfl) 31 .f64 _ _ _ _ _ _ hsum
            go_wp2_with fail
            go_round
            case rel => exact ⟨i + 1, x + q, y + 1, by omega, rfl, by go_num, Hnx.out⟩
            case measure => simp [intOf]; omega
          · have hnx := Hnext.out
            rw [stepE_out _ hz0 (fun h => hz2 h.2)] at hnx
            have Hnx := Lib.hid hnx; clear hnx
            go_wp2_with fail
            go_round
            case rel => exact ⟨i + 1, x, y, by omega, rfl, by go_num, Hnx.out⟩
            case measure => simp [intOf]; omega
        · have hnx := Hnext.out
          rw [stepE_out _ hz0 (fun h => hz1 h.1)] at hnx
          have Hnx := Lib.hid hnx; clear hnx
          go_wp2_with fail
          go_round
          case rel => exact ⟨i + 1, x, y, by omega, rfl, by go_num, Hnx.out⟩
          case measure => simp [intOf]; omega
    · have hin : i = n := by omega
      have Hin := Lib.hid hin
      have Hfin : Hid (runE k = (x, y)) := by have := Hr.out; rwa [hin, ← Hn.out, List.take_length] at this
      have hc1 := fun W => run_convert_float_int (P := Try.prog) W 34 2 .f64 .i64 (F x 0) (x : Int) (by kernel_rfl) Try.underlying2 (int_F (by omega))
      have hc2 := fun W => run_convert_float_int (P := Try.prog) W 34 2 .f64 .i64 (F y 0) (y : Int) (by kernel_rfl) Try.underlying2 (int_F (by omega))
      clear hin
      go_wp2_with fail
      go_ret2
      exact ⟨by rw [Hfin.out]; rfl, Below.refl _ _⟩
end Go.Proofs.Ytbcmoepbegbnpaa
