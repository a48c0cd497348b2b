/- Package crc: More, Sum, the table lying as the text lays it. No law is proved here. -/
import Derived.Test.YtfooplicnjjipaaDoorCrcWords
namespace Go.Proofs.YtfooplicnjjipaaDoor
open Go.RowKit

theorem more_any (s : Nat) (hs : s < 4294967296) (b off len cap : Nat) (zs : List Int) (w : World)
    (hlen : len = zs.length) (hbig : len ≤ 9223372036854775807)
    (hc : ∀ j, j < zs.length → w.cell? ⟨b, off + j, none⟩ = some (.int .u8 (zs.getD j 0)))
    (hsm : CrcMath.Small zs)
    (htab : ∀ j, j < 16 → w.cell? ⟨0, j, none⟩ = some (.int .u32 (CrcMath.table.getD j 0))) :
    Calls Tryd.prog 29 #[.int .u32 s, .slice (some ⟨b, off, none⟩) len cap] w fun e w' => e = .returned (.int .u32 (CrcMath.more s zs)) ∧ w' = w := by
  have Hlen := Lib.hid hlen; clear hlen
  have Hc := Lib.hid hc; clear hc
  have Htab := Lib.hid htab; clear htab
  have hsg : IntKind.u32.signed = false := rfl
  have hnot := bits_not s hs
  go_enter Tryd.func29, Tryd.ntmps29
  go_wp2_with fail
  clear hnot
  go_loop [5, 12] (fun v i => ∃ k r : Nat, k ≤ len ∧ i = .int .i64 k ∧ v = .int .u32 r ∧ r < 4294967296 ∧ Hid (r = CrcMath.run (4294967295 - s) (zs.take k))) (fun _ i => len - (intOf i).toNat)
  case atStart => exact ⟨0, _, Nat.zero_le _, rfl, rfl, by omega, rfl⟩
  case round =>
    obtain ⟨k, r, hk, rfl, rfl, hr, Hr⟩ := hrel
    by_cases hlt : k < len
    · obtain ⟨c, hcc⟩ : ∃ c : Nat, zs.getD k 0 = (c : Int) := by
        obtain ⟨h0, _⟩ := CrcMath.Small.at hsm (k := k) (by have := Hlen.out; omega)
        exact Int.eq_ofNat_of_zero_le h0
      have hc256 : c < 256 := by
        obtain ⟨_, h1⟩ := CrcMath.Small.at hsm (k := k) (by have := Hlen.out; omega)
        omega
      have hcell : w.cell? ⟨b, off + k, none⟩ = some (.int .u8 (c : Int)) := by rw [← hcc]; exact Hc.out k (by have := Hlen.out; omega)
      have hx := u32_xor_nat r c hr (by omega)
      have hx32 : r ^^^ c < 4294967296 := Nat.xor_lt_two_pow (n := 32) hr (by omega)
      generalize hX : r ^^^ c = x at hx hx32
      have HX := Lib.hid hX; clear hX
      have Hcc := Lib.hid hcc; clear hcc
      go_wp2_with fail
      go_loop [5, 20] (fun v j => ∃ m y : Nat, m ≤ 2 ∧ j = .int .i64 m ∧ v = .int .u32 y ∧ y < 4294967296 ∧ Hid (y = CrcMath.times m x)) (fun _ j => 2 - (intOf j).toNat)
      case atStart => exact ⟨0, x, by omega, rfl, rfl, hx32, rfl⟩
      case round =>
        obtain ⟨m, y, hm, rfl, rfl, hy, Hy⟩ := hrel
        by_cases hm2 : m < 2
        · have hand := and15 y hy
          have hi16 : y % 16 < 16 := Nat.mod_lt _ (by decide)
          have ht := Htab.out (y % 16) hi16
          obtain ⟨t, Ht⟩ : ∃ t : Nat, Hid (CrcMath.table.getD (y % 16) 0 = t) := ⟨_, rfl⟩
          rw [Ht.out] at ht
          have hq : bits .xor .u32 ((y : Int) / 16) (t : Int) = ((CrcMath.step4 y : Nat) : Int) := by rw [CrcMath.step4_tab, Ht.out]; exact nib_xor y t hy (by rw [← Ht.out]; exact CrcMath.table_lt _ hi16)
          have hq32 : CrcMath.step4 y < 4294967296 := CrcMath.step4_lt y hy
          generalize hZ : CrcMath.step4 y = z at hq hq32
          have HZ := Lib.hid hZ; clear hZ
          generalize hI : y % 16 = i at *
          have HI := Lib.hid hI; clear hI
          go_wp2_with fail
          go_round
          case rel => exact ⟨m + 1, z, by omega, by go_num, rfl, hq32, by show z = CrcMath.step4 (CrcMath.times m x); rw [← Hy.out]; exact HZ.out.symm⟩
          case measure => simp [intOf]; omega
        · have hm3 : m = 2 := by omega
          subst hm3
          go_wp2_with fail
          go_round
          case rel =>
            refine ⟨k + 1, y, by omega, by go_num, rfl, hy, ?_⟩
            have h1 : zs.take (k + 1) = zs.take k ++ [(c : Int)] := by
              rw [← Hcc.out]; exact take_snoc zs k (by have := Hlen.out; omega)
            show y = _
            rw [h1, CrcMath.run_append, ← Hr.out, CrcMath.run_cons, CrcMath.run_nil, Int.toNat_natCast]
            have := Hy.out
            rw [← HX.out] at this
            exact this
          case measure => simp [intOf]; omega
    · have hkl : k = len := by omega
      have h1 : zs.take k = zs := by rw [hkl, Hlen.out]; exact List.take_length
      have hfin : ((4294967295 - r : Nat) : Int) = ((CrcMath.more s zs : Nat) : Int) := by
        have := Hr.out
        rw [h1] at this
        rw [this]; rfl
      clear h1 hkl
      have Hfin := Lib.hid hfin; clear hfin
      have hnot := bits_not r hr
      go_wp2_with fail
      go_ret
      exact ⟨ret_int Hfin.out, rfl⟩

/-- The table lies as the program's text lays it. -/
def Tab (w : World) : Prop := ∀ j, j < 16 → w.cell? ⟨0, j, none⟩ = some (.int .u32 (CrcMath.table.getD j 0))

theorem Tab.later {w w' : World} (h : Tab w) (hb : Below w.heap.size w w') : Tab w' := fun j hj => cell_later hb (h j hj)
theorem more_nil (s : Nat) (hs : s < 4294967296) (a : Option Addr) (cap : Nat) (w : World) :
    Calls Tryd.prog 29 #[.int .u32 s, .slice a 0 cap] w fun e w' => e = .returned (.int .u32 s) ∧ w' = w := by
  have hsg : IntKind.u32.signed = false := rfl
  have hnot := bits_not s hs
  have hnot2 := bits_not (4294967295 - s) (by omega)
  have hfin : ((4294967295 - (4294967295 - s) : Nat) : Int) = (s : Int) := by omega
  have Hfin := Lib.hid hfin; clear hfin
  go_enter Tryd.func29, Tryd.ntmps29
  go_wp2_with fail
  refine wp_loop_rounds 1 ?_
  rw [rounds_succ]
  go_wp2_with fail
  go_ret
  exact ⟨ret_int Hfin.out, rfl⟩

theorem more_calls (s : Nat) (hs : s < 4294967296) (v : Value) (zs : List Int) (w : World) (hv : Bytes w v zs) (ht : Tab w) :
    Calls Tryd.prog 29 #[.int .u32 s, v] w fun e w' => e = .returned (.int .u32 (CrcMath.more s zs)) ∧ w = w' := by
  obtain ⟨h1, h2, h3⟩ := hv
  rcases h3 with ⟨a, cap, rfl, _, rfl⟩ | ⟨b, off, cap, rfl, hc⟩
  · rw [CrcMath.more_nil s hs]
    exact (more_nil s hs a cap w).mono fun _ _ ⟨he, hw⟩ => ⟨he, hw.symm⟩
  · exact (more_any s hs b off zs.length cap zs w rfl h1 hc h2 ht).mono fun _ _ ⟨he, hw⟩ => ⟨he, hw.symm⟩

theorem sum_calls (v : Value) (zs : List Int) (w : World) (hv : Bytes w v zs) (ht : Tab w) :
    Calls Tryd.prog 25 #[v] w fun e w' => e = .returned (.int .u32 (CrcMath.sum zs)) ∧ w = w' := by
  go_enter Tryd.func25, Tryd.ntmps25
  go_wp2_with (go_at_call 29; refine (more_calls 0 (by decide) v zs _ hv ht).mono ?_; rintro e w' ⟨rfl, rfl⟩)
  go_ret
  exact ⟨rfl, rfl⟩
end Go.Proofs.YtfooplicnjjipaaDoor
