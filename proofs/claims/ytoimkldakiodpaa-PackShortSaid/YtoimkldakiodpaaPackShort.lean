/- PackShort, walked. -/
import Derived.Test.YtoimkldakiodpaaPackLaws
namespace Go.Proofs.Ytoimkldakiodpaa
open Go.RowKit

/-- a number's bytes behind nothing -/
theorem put_nil (w : World) (x : Nat) (hx : x < 18446744073709551616) : Calls Try.prog 12 #[.slice none 0 0, .int .u64 x] w (Made w (PackMath.num x)) :=
  put_calls none 0 0 [] x hx w (bytes_nil w _ _ (fun _ => rfl)) rfl (Nat.le_refl 0) (by omega)

def left (r : Nat) : Nat := if r = 0 then 0 else (PackMath.num r).length
theorem left_step (r : Nat) (h : r ≠ 0) : left r = 1 + left (r / 128) := by
  unfold left
  rw [if_neg h]
  by_cases h1 : r < 128
  · rw [PackMath.num_lt h1, if_pos (by omega)]; rfl
  · rw [PackMath.num_ge (by omega), if_neg (by omega), List.length_cons]; omega
theorem left_start (a : Nat) : (PackMath.num a).length = 1 + left (a / 128) := by
  by_cases h : a = 0
  · subst h; rw [PackMath.num_lt (by decide)]; rfl
  · have := left_step a h
    unfold left at this
    rw [if_neg h] at this
    exact this


set_option maxRecDepth 100000 in
set_option maxHeartbeats 1000000 in
theorem short_lt (W : World) (a b : Nat) (ha : a < 18446744073709551616) (hb : b < 18446744073709551616) (hab : a < b) :
    Calls Try.prog 5 #[.int .u64 (a : Int), .int .u64 (b : Int)] W fun e W' => e = .returned (.bool true) ∧ Below W.heap.size W W' := by
  have Ha := Lib.hid ha; clear ha
  have Hb := Lib.hid hb; clear hb
  have hba : ¬ b < a := by omega
  go_enter Try.func5, Try.ntmps5
  go_wp2_with fail
  refine (awake_calls _).mono ?_
  rintro e w1 ⟨rfl, hb⟩
  have Hb1 := Lib.hid hb; clear hb
  go_wp2_with fail
  refine (put_nil _ a Ha.out).mono ?_
  rintro e w2 ⟨v1, rfl, hb, hF1⟩
  have Hb2 := Lib.hid (Hb1.out.trans (hb.mono Hb1.out.size)); clear hb Hb1
  go_wp2_with fail
  refine (put_nil _ b Hb.out).mono ?_
  rintro e w3 ⟨v2, rfl, hb, hF2⟩
  have HF1 := Lib.hid (hF1.later hb)
  have HF2 := Lib.hid hF2
  have Hb3 := Lib.hid (Hb2.out.trans (hb.mono Hb2.out.size)); clear hb Hb2 hF1 hF2
  go_wp2_with fail
  go_loop [7, 8] (fun i v => ∃ j r : Nat, i = .int .i64 j ∧ v = .int .u64 r ∧ j ≤ 10 ∧ Hid ((PackMath.num a).length = j + left r)) (fun _ v => (intOf v).toNat)
  case atStart => exact ⟨1, a / 128, rfl, congrArg (Value.int IntKind.u64) (by omega), by omega, left_start a⟩
  case round =>
    obtain ⟨j, r, rfl, rfl, hj, Hr⟩ := hrel
    by_cases h0 : 0 < r
    · have hl := Hr.out
      have h10 := PackMath.num_len_64 a Ha.out
      have hs := left_step r (by omega)
      have hj9 : j + 1 ≤ 10 := by omega
      have Hs : Hid ((PackMath.num a).length = (j + 1) + left (r / 128)) := by show _ = _; omega
      clear hl h10 hs
      go_wp2_with fail
      go_round
      case rel => exact ⟨j + 1, r / 128, by go_num, congrArg (Value.int IntKind.u64) (by omega), by omega, Hs⟩
      case measure => simp [intOf]; omega
    · have hl := Hr.out
      have hr0 : r = 0 := by omega
      have hn : (PackMath.num a).length = j := by rw [hl, hr0]; rfl
      have Hn := Lib.hid hn; clear hn hl hr0
      have hmn := PackMath.num_len_mono a b (by omega)
      go_wp2_with fail
      refine (put_nil _ a Ha.out).mono ?_
      rintro e w4 ⟨v3, rfl, hb, hF3⟩
      obtain ⟨g1, cap1, rfl, _⟩ := HF1.out.form
      obtain ⟨g2, cap2, rfl, _⟩ := HF2.out.form
      obtain ⟨g3, cap3, rfl, _⟩ := hF3.form
      have hcv1 := str_any (HF1.out.later hb).bytes
      have hcv2 := str_any (HF2.out.later hb).bytes
      have Hb4 := Lib.hid (Hb3.out.trans (hb.mono Hb3.out.size)); clear hb hF3
      obtain ⟨s1, Hs1⟩ : ∃ s, Hid (strOfNums (PackMath.num a) = s) := ⟨_, rfl⟩
      obtain ⟨s2, Hs2⟩ : ∃ s, Hid (strOfNums (PackMath.num b) = s) := ⟨_, rfl⟩
      rw [Hs1.out] at hcv1
      rw [Hs2.out] at hcv2
      have hne : (s1.toList == s2.toList) = false := str_ne (by rw [← Hs1.out, ← Hs2.out]; exact fun e => by have := PackMath.num_inj (strOf_inj (PackMath.num_bytes _) (PackMath.num_bytes _) e); omega)
      have hab : ((a : Int) == (b : Int)) = false := beq_eq_false_iff_ne.2 (by omega)
      rw [Hn.out] at hmn hcv1 ⊢
      obtain ⟨l2, Hl2⟩ : ∃ l, Hid ((PackMath.num b).length = l) := ⟨_, rfl⟩
      rw [Hl2.out] at hmn hcv2 ⊢
      go_wp2_with fail
      go_ret
      exact ⟨rfl, Hb4.out⟩

set_option maxRecDepth 100000 in
set_option maxHeartbeats 1000000 in
theorem short_gt (W : World) (a b : Nat) (ha : a < 18446744073709551616) (hb : b < 18446744073709551616) (hba : b < a) :
    Calls Try.prog 5 #[.int .u64 (a : Int), .int .u64 (b : Int)] W fun e W' => e = .returned (.bool true) ∧ Below W.heap.size W W' := by
  have Ha := Lib.hid ha; clear ha
  have Hb := Lib.hid hb; clear hb
  have hab' : ¬ a < b := by omega
  go_enter Try.func5, Try.ntmps5
  go_wp2_with fail
  refine (awake_calls _).mono ?_
  rintro e w1 ⟨rfl, hb⟩
  have Hb1 := Lib.hid hb; clear hb
  go_wp2_with fail
  refine (put_nil _ b Hb.out).mono ?_
  rintro e w2 ⟨v1, rfl, hb, hF1⟩
  have Hb2 := Lib.hid (Hb1.out.trans (hb.mono Hb1.out.size)); clear hb Hb1
  go_wp2_with fail
  refine (put_nil _ a Ha.out).mono ?_
  rintro e w3 ⟨v2, rfl, hb, hF2⟩
  have HF1 := Lib.hid (hF1.later hb)
  have HF2 := Lib.hid hF2
  have Hb3 := Lib.hid (Hb2.out.trans (hb.mono Hb2.out.size)); clear hb Hb2 hF1 hF2
  go_wp2_with fail
  go_loop [7, 8] (fun i v => ∃ j r : Nat, i = .int .i64 j ∧ v = .int .u64 r ∧ j ≤ 10 ∧ Hid ((PackMath.num a).length = j + left r)) (fun _ v => (intOf v).toNat)
  case atStart => exact ⟨1, a / 128, rfl, congrArg (Value.int IntKind.u64) (by omega), by omega, left_start a⟩
  case round =>
    obtain ⟨j, r, rfl, rfl, hj, Hr⟩ := hrel
    by_cases h0 : 0 < r
    · have hl := Hr.out
      have h10 := PackMath.num_len_64 a Ha.out
      have hs := left_step r (by omega)
      have hj9 : j + 1 ≤ 10 := by omega
      have Hs : Hid ((PackMath.num a).length = (j + 1) + left (r / 128)) := by show _ = _; omega
      clear hl h10 hs
      go_wp2_with fail
      go_round
      case rel => exact ⟨j + 1, r / 128, by go_num, congrArg (Value.int IntKind.u64) (by omega), by omega, Hs⟩
      case measure => simp [intOf]; omega
    · have hl := Hr.out
      have hr0 : r = 0 := by omega
      have hn : (PackMath.num a).length = j := by rw [hl, hr0]; rfl
      have Hn := Lib.hid hn; clear hn hl hr0
      have hmn := PackMath.num_len_mono b a (by omega)
      go_wp2_with fail
      refine (put_nil _ a Ha.out).mono ?_
      rintro e w4 ⟨v3, rfl, hb, hF3⟩
      obtain ⟨g1, cap1, rfl, _⟩ := HF1.out.form
      obtain ⟨g2, cap2, rfl, _⟩ := HF2.out.form
      obtain ⟨g3, cap3, rfl, _⟩ := hF3.form
      have hcv1 := str_any (HF1.out.later hb).bytes
      have hcv2 := str_any (HF2.out.later hb).bytes
      have Hb4 := Lib.hid (Hb3.out.trans (hb.mono Hb3.out.size)); clear hb hF3
      obtain ⟨s1, Hs1⟩ : ∃ s, Hid (strOfNums (PackMath.num b) = s) := ⟨_, rfl⟩
      obtain ⟨s2, Hs2⟩ : ∃ s, Hid (strOfNums (PackMath.num a) = s) := ⟨_, rfl⟩
      rw [Hs1.out] at hcv1
      rw [Hs2.out] at hcv2
      have hne : (s1.toList == s2.toList) = false := str_ne (by rw [← Hs1.out, ← Hs2.out]; exact fun e => by have := PackMath.num_inj (strOf_inj (PackMath.num_bytes _) (PackMath.num_bytes _) e); omega)
      have hab : ((a : Int) == (b : Int)) = false := beq_eq_false_iff_ne.2 (by omega)
      rw [Hn.out] at hmn hcv2 ⊢
      obtain ⟨l2, Hl2⟩ : ∃ l, Hid ((PackMath.num b).length = l) := ⟨_, rfl⟩
      rw [Hl2.out] at hmn hcv1 ⊢
      go_wp2_with fail
      go_ret
      exact ⟨rfl, Hb4.out⟩

set_option maxRecDepth 100000 in
set_option maxHeartbeats 1000000 in
theorem short_eq (W : World) (a : Nat) (ha : a < 18446744073709551616) :
    Calls Try.prog 5 #[.int .u64 (a : Int), .int .u64 (a : Int)] W fun e W' => e = .returned (.bool true) ∧ Below W.heap.size W W' := by
  have Ha := Lib.hid ha; clear ha
  go_enter Try.func5, Try.ntmps5
  go_wp2_with fail
  refine (awake_calls _).mono ?_
  rintro e w1 ⟨rfl, hb⟩
  have Hb1 := Lib.hid hb; clear hb
  go_wp2_with fail
  refine (put_nil _ a Ha.out).mono ?_
  rintro e w2 ⟨v1, rfl, hb, hF1⟩
  have Hb2 := Lib.hid (Hb1.out.trans (hb.mono Hb1.out.size)); clear hb Hb1
  go_wp2_with fail
  refine (put_nil _ a Ha.out).mono ?_
  rintro e w3 ⟨v2, rfl, hb, hF2⟩
  have HF1 := Lib.hid (hF1.later hb)
  have HF2 := Lib.hid hF2
  have Hb3 := Lib.hid (Hb2.out.trans (hb.mono Hb2.out.size)); clear hb Hb2 hF1 hF2
  go_wp2_with fail
  go_loop [7, 8] (fun i v => ∃ j r : Nat, i = .int .i64 j ∧ v = .int .u64 r ∧ j ≤ 10 ∧ Hid ((PackMath.num a).length = j + left r)) (fun _ v => (intOf v).toNat)
  case atStart => exact ⟨1, a / 128, rfl, congrArg (Value.int IntKind.u64) (by omega), by omega, left_start a⟩
  case round =>
    obtain ⟨j, r, rfl, rfl, hj, Hr⟩ := hrel
    by_cases h0 : 0 < r
    · have hl := Hr.out
      have h10 := PackMath.num_len_64 a Ha.out
      have hs := left_step r (by omega)
      have hj9 : j + 1 ≤ 10 := by omega
      have Hs : Hid ((PackMath.num a).length = (j + 1) + left (r / 128)) := by show _ = _; omega
      clear hl h10 hs
      go_wp2_with fail
      go_round
      case rel => exact ⟨j + 1, r / 128, by go_num, congrArg (Value.int IntKind.u64) (by omega), by omega, Hs⟩
      case measure => simp [intOf]; omega
    · have hl := Hr.out
      have hr0 : r = 0 := by omega
      have hn : (PackMath.num a).length = j := by rw [hl, hr0]; rfl
      have Hn := Lib.hid hn; clear hn hl hr0
      have hmn := Nat.le_refl (PackMath.num a).length
      go_wp2_with fail
      refine (put_nil _ a Ha.out).mono ?_
      rintro e w4 ⟨v3, rfl, hb, hF3⟩
      obtain ⟨g1, cap1, rfl, _⟩ := HF1.out.form
      obtain ⟨g2, cap2, rfl, _⟩ := HF2.out.form
      obtain ⟨g3, cap3, rfl, _⟩ := hF3.form
      have hcv1 := str_any (HF1.out.later hb).bytes
      have hcv2 := str_any (HF2.out.later hb).bytes
      have Hb4 := Lib.hid (Hb3.out.trans (hb.mono Hb3.out.size)); clear hb hF3
      obtain ⟨s1, Hs1⟩ : ∃ s, Hid (strOfNums (PackMath.num a) = s) := ⟨_, rfl⟩
      obtain ⟨s2, Hs2⟩ : ∃ s, Hid (strOfNums (PackMath.num a) = s) := ⟨_, rfl⟩
      rw [Hs1.out] at hcv1
      rw [Hs2.out] at hcv2
      rw [Hn.out] at hcv1 hcv2 ⊢
      clear hmn
      go_wp2_with fail
      go_ret
      exact ⟨rfl, Hb4.out⟩

theorem short_law (W : World) (a b : Nat) (ha : a < 18446744073709551616) (hb : b < 18446744073709551616) :
    Calls Try.prog 5 #[.int .u64 (a : Int), .int .u64 (b : Int)] W fun e W' => e = .returned (.bool true) ∧ Below W.heap.size W W' := by
  rcases Nat.lt_trichotomy a b with h | h | h
  · exact short_lt W a b ha hb h
  · subst h; exact short_eq W a ha
  · exact short_gt W a b ha hb h
end Go.Proofs.Ytoimkldakiodpaa
