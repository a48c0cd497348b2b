/- The walks of layer 1: More, Sum, the reference sum and awake, each by its contract; CrcSums walked. Premises: bytes that read as so many cells, and the table as the text lays it. -/
import Derived.Test.YtffgfenbapbakaaDoorLaw
import Derived.Test.YtffgfenbapbakaaDoorCrcMath
import Derived.WalkKit
import Derived.WalkSpells
import Derived.WalkLawsBesides
import Derived.Laws.BitsAllLaws
import Derived.Lib.Hide
import Derived.Lib.SlBytesConst
namespace Go.Proofs.YtffgfenbapbakaaDoor
open Go.RowKit

theorem bits_not (n : Nat) (h : n < 4294967296) : bits .xor .u32 IntKind.u32.max (n : Int) = ((4294967295 - n : Nat) : Int) := by
  have e : (IntKind.u32.max : Int) = ((4294967295 : Nat) : Int) := rfl
  rw [e, u32_xor_nat _ _ (by decide) h]
  congr 1
  apply Nat.eq_of_testBit_eq
  intro i
  rw [Nat.testBit_xor, show (4294967295 : Nat) = 2 ^ 32 - 1 by rfl, show 2 ^ 32 - 1 - n = 2 ^ 32 - (n + 1) by omega, Nat.testBit_two_pow_sub_one, Nat.testBit_two_pow_sub_succ (by omega)]
  by_cases hi : i < 32
  · simp [hi]
  · have : n.testBit i = false := Nat.testBit_lt_two_pow (Nat.lt_of_lt_of_le h (Nat.pow_le_pow_right (by decide) (by omega) : 2 ^ 32 ≤ 2 ^ i))
    simp [hi, this]

theorem and15 (y : Nat) (h : y < 4294967296) : bits .and .u32 (y : Int) 15 = ((y % 16 : Nat) : Int) := by
  have e := u32_and_nat y 15 h (by decide)
  rw [nat_mask4] at e
  exact e

theorem nib_xor (y t : Nat) (h : y < 4294967296) (ht : t < 4294967296) : bits .xor .u32 ((y : Int) / 16) (t : Int) = ((y / 16 ^^^ t : Nat) : Int) := by
  rw [show (y : Int) / 16 = ((y / 16 : Nat) : Int) by omega]
  exact u32_xor_nat _ _ (by omega) ht

theorem take_snoc (l : List Int) (k : Nat) (h : k < l.length) : l.take (k + 1) = l.take k ++ [l.getD k 0] := by
  rw [List.take_succ_eq_append_getElem h]
  simp [List.getD_eq_getElem?_getD, List.getElem?_eq_getElem h]

theorem ret_int {k : IntKind} {a b : Int} (h : a = b) : Ending.returned (.int k a) = .returned (.int k b) := by rw [h]

theorem more_any (s : Nat) (hs : s < 4294967296) (b off len cap : Nat) (zs : List Int) (w : World)
    (hlen : len = zs.length) (hbig : len ≤ 9223372036854775807)
    (hc : ∀ j, j < zs.length → w.cell? ⟨b, off + j, none⟩ = some (.int .u8 (zs.getD j 0)))
    (hsm : CrcMath.Small zs)
    (htab : ∀ j, j < 16 → w.cell? ⟨0, j, none⟩ = some (.int .u32 (CrcMath.table.getD j 0))) :
    Calls Tryd.prog 9 #[.int .u32 s, .slice (some ⟨b, off, none⟩) len cap] w fun e w' => e = .returned (.int .u32 (CrcMath.more s zs)) ∧ w' = w := by
  have Hlen := Lib.hid hlen; clear hlen
  have Hc := Lib.hid hc; clear hc
  have Htab := Lib.hid htab; clear htab
  have hsg : IntKind.u32.signed = false := rfl
  have hnot := bits_not s hs
  go_enter Tryd.func9, Tryd.ntmps9
  go_wp2_with fail
  clear hnot
  go_loop [5, 12] (fun v i => ∃ k r : Nat, k ≤ len ∧ i = .int .i64 k ∧ v = .int .u32 r ∧ r < 4294967296 ∧ Hid (r = CrcMath.run (4294967295 - s) (zs.take k))) (fun _ i => len - (intOf i).toNat)
  case atStart => exact ⟨0, _, Nat.zero_le _, rfl, rfl, by omega, rfl⟩
  case round =>
    obtain ⟨k, r, hk, rfl, rfl, hr, Hr⟩ := hrel
    by_cases hlt : k < len
    · obtain ⟨c, hcc⟩ : ∃ c : Nat, zs.getD k 0 = (c : Int) := by
        obtain ⟨h0, _⟩ := CrcMath.Small.at hsm (k := k) (by have := Hlen.out; omega)
        exact Int.eq_ofNat_of_zero_le h0
      have hc256 : c < 256 := by
        obtain ⟨_, h1⟩ := CrcMath.Small.at hsm (k := k) (by have := Hlen.out; omega)
        omega
      have hcell : w.cell? ⟨b, off + k, none⟩ = some (.int .u8 (c : Int)) := by rw [← hcc]; exact Hc.out k (by have := Hlen.out; omega)
      have hx := u32_xor_nat r c hr (by omega)
      have hx32 : r ^^^ c < 4294967296 := Nat.xor_lt_two_pow (n := 32) hr (by omega)
      generalize hX : r ^^^ c = x at hx hx32
      have HX := Lib.hid hX; clear hX
      have Hcc := Lib.hid hcc; clear hcc
      go_wp2_with fail
      go_loop [5, 20] (fun v j => ∃ m y : Nat, m ≤ 2 ∧ j = .int .i64 m ∧ v = .int .u32 y ∧ y < 4294967296 ∧ Hid (y = CrcMath.times m x)) (fun _ j => 2 - (intOf j).toNat)
      case atStart => exact ⟨0, x, by omega, rfl, rfl, hx32, rfl⟩
      case round =>
        obtain ⟨m, y, hm, rfl, rfl, hy, Hy⟩ := hrel
        by_cases hm2 : m < 2
        · have hand := and15 y hy
          have hi16 : y % 16 < 16 := Nat.mod_lt _ (by decide)
          have ht := Htab.out (y % 16) hi16
          obtain ⟨t, Ht⟩ : ∃ t : Nat, Hid (CrcMath.table.getD (y % 16) 0 = t) := ⟨_, rfl⟩
          rw [Ht.out] at ht
          have hq : bits .xor .u32 ((y : Int) / 16) (t : Int) = ((CrcMath.step4 y : Nat) : Int) := by rw [CrcMath.step4_tab, Ht.out]; exact nib_xor y t hy (by rw [← Ht.out]; exact CrcMath.table_lt _ hi16)
          have hq32 : CrcMath.step4 y < 4294967296 := CrcMath.step4_lt y hy
          generalize hZ : CrcMath.step4 y = z at hq hq32
          have HZ := Lib.hid hZ; clear hZ
          generalize hI : y % 16 = i at *
          have HI := Lib.hid hI; clear hI
          go_wp2_with fail
          go_round
          case rel => exact ⟨m + 1, z, by omega, by go_num, rfl, hq32, by show z = CrcMath.step4 (CrcMath.times m x); rw [← Hy.out]; exact HZ.out.symm⟩
          case measure => simp [intOf]; omega
        · have hm3 : m = 2 := by omega
          subst hm3
          go_wp2_with fail
          go_round
          case rel =>
            refine ⟨k + 1, y, by omega, by go_num, rfl, hy, ?_⟩
            have h1 : zs.take (k + 1) = zs.take k ++ [(c : Int)] := by
              rw [← Hcc.out]; exact take_snoc zs k (by have := Hlen.out; omega)
            show y = _
            rw [h1, CrcMath.run_append, ← Hr.out, CrcMath.run_cons, CrcMath.run_nil, Int.toNat_natCast]
            have := Hy.out
            rw [← HX.out] at this
            exact this
          case measure => simp [intOf]; omega
    · have hkl : k = len := by omega
      have h1 : zs.take k = zs := by rw [hkl, Hlen.out]; exact List.take_length
      have hfin : ((4294967295 - r : Nat) : Int) = ((CrcMath.more s zs : Nat) : Int) := by
        have := Hr.out
        rw [h1] at this
        rw [this]; rfl
      clear h1 hkl
      have Hfin := Lib.hid hfin; clear hfin
      have hnot := bits_not r hr
      go_wp2_with fail
      go_ret
      exact ⟨ret_int Hfin.out, rfl⟩

theorem poly_xor (y : Nat) (h : y < 4294967296) : bits .xor .u32 ((y : Int) / 2) 3988292384 = ((y / 2 ^^^ CrcMath.poly : Nat) : Int) := by
  rw [show (y : Int) / 2 = ((y / 2 : Nat) : Int) by omega]
  exact u32_xor_nat _ _ (by omega) (by decide)

theorem ref_any (b off len cap : Nat) (zs : List Int) (w : World)
    (hlen : len = zs.length) (hbig : len ≤ 9223372036854775807)
    (hc : ∀ j, j < zs.length → w.cell? ⟨b, off + j, none⟩ = some (.int .u8 (zs.getD j 0)))
    (hsm : CrcMath.Small zs) :
    Calls Tryd.prog 8 #[.slice (some ⟨b, off, none⟩) len cap] w fun e w' => e = .returned (.int .u32 (CrcMath.sum zs)) ∧ w' = w := by
  have Hlen := Lib.hid hlen; clear hlen
  have Hc := Lib.hid hc; clear hc
  go_enter Tryd.func8, Tryd.ntmps8
  go_wp2_with fail
  go_loop [3, 4] (fun v i => ∃ k r : Nat, k ≤ len ∧ i = .int .i64 k ∧ v = .int .u32 r ∧ r < 4294967296 ∧ Hid (r = CrcMath.run 4294967295 (zs.take k))) (fun _ i => len - (intOf i).toNat)
  case atStart => exact ⟨0, 4294967295, Nat.zero_le _, rfl, rfl, by omega, rfl⟩
  case round =>
    obtain ⟨k, r, hk, rfl, rfl, hr, Hr⟩ := hrel
    by_cases hlt : k < len
    · obtain ⟨c, hcc⟩ : ∃ c : Nat, zs.getD k 0 = (c : Int) := by
        obtain ⟨h0, _⟩ := CrcMath.Small.at hsm (k := k) (by have := Hlen.out; omega)
        exact Int.eq_ofNat_of_zero_le h0
      have hc256 : c < 256 := by
        obtain ⟨_, h1⟩ := CrcMath.Small.at hsm (k := k) (by have := Hlen.out; omega)
        omega
      have hcell : w.cell? ⟨b, off + k, none⟩ = some (.int .u8 (c : Int)) := by rw [← hcc]; exact Hc.out k (by have := Hlen.out; omega)
      have hx := u32_xor_nat r c hr (by omega)
      have hx32 : r ^^^ c < 4294967296 := Nat.xor_lt_two_pow (n := 32) hr (by omega)
      generalize hX : r ^^^ c = x at hx hx32
      have HX := Lib.hid hX; clear hX
      have Hcc := Lib.hid hcc; clear hcc
      go_wp2_with fail
      go_loop [3, 5] (fun v j => ∃ m y : Nat, m ≤ 8 ∧ j = .int .i64 m ∧ v = .int .u32 y ∧ y < 4294967296 ∧ Hid (y = CrcMath.steps m x)) (fun _ j => 8 - (intOf j).toNat)
      case atStart => exact ⟨0, x, by omega, rfl, rfl, hx32, rfl⟩
      case round =>
        obtain ⟨m, y, hm, rfl, rfl, hy, Hy⟩ := hrel
        by_cases hm2 : m < 8
        · by_cases hp : y % 2 = 1
          · have hpp : ((y : Int) % 2 == 1) = true := beq_iff_eq.2 (by omega)
            have hq := poly_xor y hy
            have hq32 : y / 2 ^^^ CrcMath.poly < 4294967296 := Nat.xor_lt_two_pow (n := 32) (by omega) CrcMath.poly_lt
            have HZ := Lib.hid (CrcMath.step_odd y hp)
            generalize y / 2 ^^^ CrcMath.poly = z at hq hq32 HZ
            clear hp
            go_wp2_with fail
            go_round
            case rel => exact ⟨m + 1, z, by omega, by go_num, rfl, hq32, by show z = CrcMath.step (CrcMath.steps m x); rw [← Hy.out]; exact HZ.out.symm⟩
            case measure => simp [intOf]; omega
          · have hpp : ((y : Int) % 2 == 1) = false := beq_eq_false_iff_ne.2 (by omega)
            have hq32 : y / 2 < 4294967296 := by omega
            have HZ := Lib.hid (CrcMath.step_even' y hp)
            clear hp
            go_wp2_with fail
            go_round
            case rel => exact ⟨m + 1, y / 2, by omega, by go_num, congrArg (Value.int IntKind.u32) (by omega), hq32, by show y / 2 = CrcMath.step (CrcMath.steps m x); rw [← Hy.out]; exact HZ.out.symm⟩
            case measure => simp [intOf]; omega
        · have hm3 : m = 8 := by omega
          subst hm3
          go_wp2_with fail
          go_round
          case rel =>
            refine ⟨k + 1, y, by omega, by go_num, rfl, hy, ?_⟩
            have h1 : zs.take (k + 1) = zs.take k ++ [(c : Int)] := by
              rw [← Hcc.out]; exact take_snoc zs k (by have := Hlen.out; omega)
            show y = _
            rw [h1, CrcMath.run_append, ← Hr.out, CrcMath.run_cons, CrcMath.run_nil, Int.toNat_natCast, ← CrcMath.steps_8, HX.out]
            exact Hy.out
          case measure => simp [intOf]; omega
    · have hkl : k = len := by omega
      have h1 : zs.take k = zs := by rw [hkl, Hlen.out]; exact List.take_length
      have hfin : ((4294967295 - r : Nat) : Int) = ((CrcMath.sum zs : Nat) : Int) := by
        have := Hr.out
        rw [h1] at this
        rw [this]; rfl
      clear h1 hkl
      have Hfin := Lib.hid hfin; clear hfin
      go_wp2_with fail
      go_ret
      exact ⟨ret_int (by rw [← Hfin.out]; omega), rfl⟩

/-- The table lies as the program's text lays it. -/
def Tab (w : World) : Prop := ∀ j, j < 16 → w.cell? ⟨0, j, none⟩ = some (.int .u32 (CrcMath.table.getD j 0))

theorem Tab.later {w w' : World} (h : Tab w) (hb : Below w.heap.size w w') : Tab w' := fun j hj => cell_later hb (h j hj)
theorem more_nil (s : Nat) (hs : s < 4294967296) (a : Option Addr) (cap : Nat) (w : World) :
    Calls Tryd.prog 9 #[.int .u32 s, .slice a 0 cap] w fun e w' => e = .returned (.int .u32 s) ∧ w' = w := by
  have hsg : IntKind.u32.signed = false := rfl
  have hnot := bits_not s hs
  have hnot2 := bits_not (4294967295 - s) (by omega)
  have hfin : ((4294967295 - (4294967295 - s) : Nat) : Int) = (s : Int) := by omega
  have Hfin := Lib.hid hfin; clear hfin
  go_enter Tryd.func9, Tryd.ntmps9
  go_wp2_with fail
  refine wp_loop_rounds 1 ?_
  rw [rounds_succ]
  go_wp2_with fail
  go_ret
  exact ⟨ret_int Hfin.out, rfl⟩

theorem ref_nil (a : Option Addr) (cap : Nat) (w : World) :
    Calls Tryd.prog 8 #[.slice a 0 cap] w fun e w' => e = .returned (.int .u32 0) ∧ w' = w := by
  go_enter Tryd.func8, Tryd.ntmps8
  go_wp2_with fail
  refine wp_loop_rounds 1 ?_
  rw [rounds_succ]
  go_wp2_with fail
  go_ret
  exact ⟨rfl, rfl⟩

theorem more_calls (s : Nat) (hs : s < 4294967296) (v : Value) (zs : List Int) (w : World) (hv : Bytes w v zs) (ht : Tab w) :
    Calls Tryd.prog 9 #[.int .u32 s, v] w fun e w' => e = .returned (.int .u32 (CrcMath.more s zs)) ∧ w = w' := by
  obtain ⟨h1, h2, h3⟩ := hv
  rcases h3 with ⟨a, cap, rfl, _, rfl⟩ | ⟨b, off, cap, rfl, hc⟩
  · rw [CrcMath.more_nil s hs]
    exact (more_nil s hs a cap w).mono fun _ _ ⟨he, hw⟩ => ⟨he, hw.symm⟩
  · exact (more_any s hs b off zs.length cap zs w rfl h1 hc h2 ht).mono fun _ _ ⟨he, hw⟩ => ⟨he, hw.symm⟩

theorem ref_calls (v : Value) (zs : List Int) (w : World) (hv : Bytes w v zs) :
    Calls Tryd.prog 8 #[v] w fun e w' => e = .returned (.int .u32 (CrcMath.sum zs)) ∧ w = w' := by
  obtain ⟨h1, h2, h3⟩ := hv
  rcases h3 with ⟨a, cap, rfl, _, rfl⟩ | ⟨b, off, cap, rfl, hc⟩
  · exact (ref_nil a cap w).mono fun _ _ ⟨he, hw⟩ => ⟨he, hw.symm⟩
  · exact (ref_any b off zs.length cap zs w rfl h1 hc h2).mono fun _ _ ⟨he, hw⟩ => ⟨he, hw.symm⟩

theorem sum_calls (v : Value) (zs : List Int) (w : World) (hv : Bytes w v zs) (ht : Tab w) :
    Calls Tryd.prog 7 #[v] w fun e w' => e = .returned (.int .u32 (CrcMath.sum zs)) ∧ w = w' := by
  go_enter Tryd.func7, Tryd.ntmps7
  go_wp2_with (go_at_call 9; refine (more_calls 0 (by decide) v zs _ hv ht).mono ?_; rintro e w' ⟨rfl, rfl⟩)
  go_ret
  exact ⟨rfl, rfl⟩

def digits : List Int := [49, 50, 51, 52, 53, 54, 55, 56, 57]
set_option maxRecDepth 100000 in
theorem nine_digits : CrcMath.sum digits = 3421780262 := by decide +kernel

theorem cell_new (w : World) (C : Array Value) (T : TypeId) (m : Nat × Nat) (j : Nat) (v : Value) (h : C[j]? = some v) : (w.alloc (.cells C T m)).cell? ⟨w.heap.size, j, none⟩ = some v := by
  have e : (w.alloc (.cells C T m)).heap[w.heap.size]? = some (.cells C T m) := by
    show (w.heap.push _)[w.heap.size]? = _
    simp
  unfold World.cell?
  rw [e]
  exact h

theorem bytes_digits (w : World) (m : Nat × Nat) : Bytes (w.alloc (.cells #[.int .u8 49, .int .u8 50, .int .u8 51, .int .u8 52, .int .u8 53, .int .u8 54, .int .u8 55, .int .u8 56, .int .u8 57] 5 m)) (.slice (some ⟨w.heap.size, 0, none⟩) 9 9) digits := by
  refine ⟨by decide, by unfold digits; decide, Or.inr ⟨w.heap.size, 0, 9, rfl, fun j hj => ?_⟩⟩
  have h9 : j < 9 := hj
  have e : j = 0 ∨ j = 1 ∨ j = 2 ∨ j = 3 ∨ j = 4 ∨ j = 5 ∨ j = 6 ∨ j = 7 ∨ j = 8 := by omega
  rw [Nat.zero_add]
  apply cell_new
  rcases e with rfl | rfl | rfl | rfl | rfl | rfl | rfl | rfl | rfl <;> rfl

theorem awake_calls (w : World) (ht : Tab w) :
    Calls Tryd.prog 6 #[] w fun e w' => e = .returned (.bool true) ∧ Below w.heap.size w w' := by
  have kc := fun (w : World) (C : Array Value) (n c : Nat) => Lib.run_convert_bytes_const (P := Tryd.prog) w 22 5 C n c Tryd.underlying22 Tryd.underlying5
  have HT := Lib.hid ht; clear ht
  go_enter Tryd.func6, Tryd.ntmps6
  go_wp2_with fail
  refine (sum_calls _ digits _ (bytes_digits w _) (HT.out.later ((Below.refl _ _).alloc (Nat.le_refl _) _))).mono ?_
  rintro e w' ⟨rfl, rfl⟩
  rw [nine_digits]
  go_wp2_with fail
  refine (sum_calls _ [] _ (bytes_nil _ _ _ (fun _ => rfl)) (HT.out.later ((Below.refl _ _).alloc (Nat.le_refl _) _))).mono ?_
  rintro e w' ⟨rfl, rfl⟩
  rw [show CrcMath.sum [] = 0 from rfl]
  go_wp2_with fail
  go_ret
  exact ⟨rfl, (Below.refl _ _).alloc (Nat.le_refl _) _⟩

theorem sums_law (W : World) (v : Value) (zs : List Int) (n c : Nat) (a : Option Addr) (hv : v = .slice a n c) (hn : n = zs.length) (hB : Bytes W v zs) (ht : Tab W) :
    Calls Tryd.prog 3 #[v] W fun e W' => e = .returned (.bool true) ∧ Below W.heap.size W W' := by
  have HT := Lib.hid ht; clear ht
  have HB := Lib.hid hB; clear hB
  have hbig := HB.out.1
  rw [← hn] at hbig
  have Hn := Lib.hid hn; clear hn
  by_cases h3 : n ≤ 3000
  · have h3' : ¬ 3000 < n := by omega
    subst hv
    go_enter Tryd.func3, Tryd.ntmps3
    go_wp2_with fail
    refine (awake_calls _ HT.out).mono ?_
    rintro e w1 ⟨rfl, hb⟩
    have Hb := Lib.hid hb; clear hb
    go_wp2_with fail
    refine (sum_calls _ zs _ (HB.out.later Hb.out) (HT.out.later Hb.out)).mono ?_
    rintro e w' ⟨rfl, rfl⟩
    go_wp2_with fail
    refine (ref_calls _ zs _ (HB.out.later Hb.out)).mono ?_
    rintro e w' ⟨rfl, rfl⟩
    go_wp2_with fail
    go_ret
    exact ⟨rfl, Hb.out⟩
  · have h3' : 3000 < n := by omega
    subst hv
    go_enter Tryd.func3, Tryd.ntmps3
    go_wp2_with fail
    refine (awake_calls _ HT.out).mono ?_
    rintro e w1 ⟨rfl, hb⟩
    have Hb := Lib.hid hb; clear hb
    go_wp2_with fail
    go_ret
    exact ⟨rfl, Hb.out⟩
end Go.Proofs.YtffgfenbapbakaaDoor
