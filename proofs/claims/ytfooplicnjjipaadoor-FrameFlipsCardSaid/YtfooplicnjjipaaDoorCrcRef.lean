/- The document's own Sum of layer 1. No law is proved here. -/
import Derived.Test.YtfooplicnjjipaaDoorCrcWords
namespace Go.Proofs.YtfooplicnjjipaaDoor
open Go.RowKit

theorem ref_any (b off len cap : Nat) (zs : List Int) (w : World)
    (hlen : len = zs.length) (hbig : len ≤ 9223372036854775807)
    (hc : ∀ j, j < zs.length → w.cell? ⟨b, off + j, none⟩ = some (.int .u8 (zs.getD j 0)))
    (hsm : CrcMath.Small zs) :
    Calls Tryd.prog 24 #[.slice (some ⟨b, off, none⟩) len cap] w fun e w' => e = .returned (.int .u32 (CrcMath.sum zs)) ∧ w' = w := by
  have Hlen := Lib.hid hlen; clear hlen
  have Hc := Lib.hid hc; clear hc
  go_enter Tryd.func24, Tryd.ntmps24
  go_wp2_with fail
  go_loop [3, 4] (fun v i => ∃ k r : Nat, k ≤ len ∧ i = .int .i64 k ∧ v = .int .u32 r ∧ r < 4294967296 ∧ Hid (r = CrcMath.run 4294967295 (zs.take k))) (fun _ i => len - (intOf i).toNat)
  case atStart => exact ⟨0, 4294967295, Nat.zero_le _, rfl, rfl, by omega, rfl⟩
  case round =>
    obtain ⟨k, r, hk, rfl, rfl, hr, Hr⟩ := hrel
    by_cases hlt : k < len
    · obtain ⟨c, hcc⟩ : ∃ c : Nat, zs.getD k 0 = (c : Int) := by
        obtain ⟨h0, _⟩ := CrcMath.Small.at hsm (k := k) (by have := Hlen.out; omega)
        exact Int.eq_ofNat_of_zero_le h0
      have hc256 : c < 256 := by
        obtain ⟨_, h1⟩ := CrcMath.Small.at hsm (k := k) (by have := Hlen.out; omega)
        omega
      have hcell : w.cell? ⟨b, off + k, none⟩ = some (.int .u8 (c : Int)) := by rw [← hcc]; exact Hc.out k (by have := Hlen.out; omega)
      have hx := u32_xor_nat r c hr (by omega)
      have hx32 : r ^^^ c < 4294967296 := Nat.xor_lt_two_pow (n := 32) hr (by omega)
      generalize hX : r ^^^ c = x at hx hx32
      have HX := Lib.hid hX; clear hX
      have Hcc := Lib.hid hcc; clear hcc
      go_wp2_with fail
      go_loop [3, 5] (fun v j => ∃ m y : Nat, m ≤ 8 ∧ j = .int .i64 m ∧ v = .int .u32 y ∧ y < 4294967296 ∧ Hid (y = CrcMath.steps m x)) (fun _ j => 8 - (intOf j).toNat)
      case atStart => exact ⟨0, x, by omega, rfl, rfl, hx32, rfl⟩
      case round =>
        obtain ⟨m, y, hm, rfl, rfl, hy, Hy⟩ := hrel
        by_cases hm2 : m < 8
        · by_cases hp : y % 2 = 1
          · have hpp : ((y : Int) % 2 == 1) = true := beq_iff_eq.2 (by omega)
            have hq := poly_xor y hy
            have hq32 : y / 2 ^^^ CrcMath.poly < 4294967296 := Nat.xor_lt_two_pow (n := 32) (by omega) CrcMath.poly_lt
            have HZ := Lib.hid (CrcMath.step_odd y hp)
            generalize y / 2 ^^^ CrcMath.poly = z at hq hq32 HZ
            clear hp
            go_wp2_with fail
            go_round
            case rel => exact ⟨m + 1, z, by omega, by go_num, rfl, hq32, by show z = CrcMath.step (CrcMath.steps m x); rw [← Hy.out]; exact HZ.out.symm⟩
            case measure => simp [intOf]; omega
          · have hpp : ((y : Int) % 2 == 1) = false := beq_eq_false_iff_ne.2 (by omega)
            have hq32 : y / 2 < 4294967296 := by omega
            have HZ := Lib.hid (CrcMath.step_even' y hp)
            clear hp
            go_wp2_with fail
            go_round
            case rel => exact ⟨m + 1, y / 2, by omega, by go_num, congrArg (Value.int IntKind.u32) (by omega), hq32, by show y / 2 = CrcMath.step (CrcMath.steps m x); rw [← Hy.out]; exact HZ.out.symm⟩
            case measure => simp [intOf]; omega
        · have hm3 : m = 8 := by omega
          subst hm3
          go_wp2_with fail
          go_round
          case rel =>
            refine ⟨k + 1, y, by omega, by go_num, rfl, hy, ?_⟩
            have h1 : zs.take (k + 1) = zs.take k ++ [(c : Int)] := by
              rw [← Hcc.out]; exact take_snoc zs k (by have := Hlen.out; omega)
            show y = _
            rw [h1, CrcMath.run_append, ← Hr.out, CrcMath.run_cons, CrcMath.run_nil, Int.toNat_natCast, ← CrcMath.steps_8, HX.out]
            exact Hy.out
          case measure => simp [intOf]; omega
    · have hkl : k = len := by omega
      have h1 : zs.take k = zs := by rw [hkl, Hlen.out]; exact List.take_length
      have hfin : ((4294967295 - r : Nat) : Int) = ((CrcMath.sum zs : Nat) : Int) := by
        have := Hr.out
        rw [h1] at this
        rw [this]; rfl
      clear h1 hkl
      have Hfin := Lib.hid hfin; clear hfin
      go_wp2_with fail
      go_ret
      exact ⟨ret_int (by rw [← Hfin.out]; omega), rfl⟩

theorem ref_nil (a : Option Addr) (cap : Nat) (w : World) :
    Calls Tryd.prog 24 #[.slice a 0 cap] w fun e w' => e = .returned (.int .u32 0) ∧ w' = w := by
  go_enter Tryd.func24, Tryd.ntmps24
  go_wp2_with fail
  refine wp_loop_rounds 1 ?_
  rw [rounds_succ]
  go_wp2_with fail
  go_ret
  exact ⟨rfl, rfl⟩

theorem ref_calls (v : Value) (zs : List Int) (w : World) (hv : Bytes w v zs) :
    Calls Tryd.prog 24 #[v] w fun e w' => e = .returned (.int .u32 (CrcMath.sum zs)) ∧ w = w' := by
  obtain ⟨h1, h2, h3⟩ := hv
  rcases h3 with ⟨a, cap, rfl, _, rfl⟩ | ⟨b, off, cap, rfl, hc⟩
  · exact (ref_nil a cap w).mono fun _ _ ⟨he, hw⟩ => ⟨he, hw.symm⟩
  · exact (ref_any b off zs.length cap zs w rfl h1 hc h2).mono fun _ _ ⟨he, hw⟩ => ⟨he, hw.symm⟩
end Go.Proofs.YtfooplicnjjipaaDoor
