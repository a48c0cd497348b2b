/- PackPrefix, walked. -/
import Derived.Test.YtoimkldakiodpaaPackShort
import Derived.Lib.Strings
namespace Go.Proofs.Ytoimkldakiodpaa
open Go.RowKit

theorem bare_cut (a k : Nat) (h : k < (PackMath.num a).length) : PackMath.Bare ((PackMath.num a).take k) := by
  intro v rest _ e
  have h1 : PackMath.num a = PackMath.num v ++ (rest ++ (PackMath.num a).drop k) := by
    rw [← List.append_assoc, ← e, List.take_append_drop]
  obtain ⟨_, h2⟩ := PackMath.num_prefix a v [] _ (by rw [List.append_nil]; exact h1)
  have h3 := congrArg List.length h2
  simp at h3
  omega

theorem nums_cut (s : ByteArray) (k : Nat) : nums (s.extract 0 k) = (nums s).take k := by
  unfold nums
  rw [Lib.extract_data, List.drop_zero, List.map_take, Nat.sub_zero]
theorem cut_ne {a b : Nat} {sA sB : ByteArray} (hA : strOfNums (PackMath.num a) = sA) (hB : strOfNums (PackMath.num b) = sB) (hab : a ≠ b) : sB.extract 0 sA.size ≠ sA := by
  intro e
  have e1 := congrArg nums e
  rw [nums_cut, ← hB, nums_strOf (PackMath.num_bytes b), ← hA, nums_strOf (PackMath.num_bytes a)] at e1
  have e2 := List.take_append_drop (strOfNums (PackMath.num a)).size (PackMath.num b)
  rw [e1] at e2
  exact hab (PackMath.num_prefix a b _ [] (by rw [List.append_nil (PackMath.num b)]; exact e2)).1
theorem cut_bare {a k : Nat} {sA : ByteArray} (hA : strOfNums (PackMath.num a) = sA) (hk : k < sA.size) : PackMath.Bare (nums (sA.extract 0 k)) := by
  rw [nums_cut, ← hA, nums_strOf (PackMath.num_bytes a)]
  rw [← hA, strOfNums_size] at hk
  exact bare_cut a k hk

set_option maxRecDepth 100000 in
set_option maxHeartbeats 4000000 in
theorem prefix_law (W : World) (a b m : Nat) (ha : a < 18446744073709551616) (hb : b < 18446744073709551616) (hm : m < 256) :
    Calls Try.prog 6 #[.int .u64 (a : Int), .int .u64 (b : Int), .int .u8 (m : Int)] W fun e W' => e = .returned (.bool true) ∧ Below W.heap.size W W' := by
  have Ha := Lib.hid ha; clear ha
  have Hb := Lib.hid hb; clear hb
  have Pa := Lib.hid (fun w => put_nil w a Ha.out)
  have Pb := Lib.hid (fun w => put_nil w b Hb.out)
  obtain ⟨sA, HA⟩ : ∃ s, Hid (strOfNums (PackMath.num a) = s) := ⟨_, rfl⟩
  obtain ⟨sB, HB⟩ : ∃ s, Hid (strOfNums (PackMath.num b) = s) := ⟨_, rfl⟩
  go_enter Try.func6, Try.ntmps6
  go_wp2_with fail
  refine (awake_calls _).mono ?_
  rintro e w1 ⟨rfl, hb⟩
  have Hb1 := Lib.hid hb; clear hb
  go_wp2_with fail
  go_region_held (fun w => Below w1.heap.size w1 w)
    (first | exact (Below.refl _ _).drew | assumption)
    (first
      | (go_at_call 12; ((with_reducible refine (Pa.out _).mono ?_); rintro e wA ⟨vA, rfl, hbA, hFA⟩; have hcA := str_any hFA.bytes; rw [HA.out] at hcA; (try have hcB' := str_any (hFB.later hbA).bytes); (try rw [HB.out] at hcB'); have hSA := keep_next ‹Below w1.heap.size w1 _› hbA))
      | (go_at_call 12; ((with_reducible refine (Pb.out _).mono ?_); rintro e wB ⟨vB, rfl, hbB, hFB⟩; have hcB := str_any hFB.bytes; rw [HB.out] at hcB; (try have hcA' := str_any (hFA.later hbB).bytes); (try rw [HA.out] at hcA'); have hSB := keep_next ‹Below w1.heap.size w1 _› hbB)))
  all_goals
    have Hb2 := Lib.hid (Hb1.out.trans (hSB.mono Hb1.out.size))
    have hsz : sA.size ≤ 10 := by rw [← HA.out, strOfNums_size]; exact PackMath.num_len_64 a Ha.out
    have hsz0 : 0 < sA.size := by rw [← HA.out, strOfNums_size]; exact PackMath.num_pos a
    have hszB : sB.size ≤ 10 := by rw [← HB.out, strOfNums_size]; exact PackMath.num_len_64 b Hb.out
    clear hcA hcB hSA hSB hFA hFB hbA hbB hcA'
    obtain ⟨kk, hkk, hkm⟩ : ∃ kk : Nat, kk < sA.size ∧ (m : Int) % (sA.size : Int) = (kk : Int) := ⟨m % sA.size, Nat.mod_lt _ (by omega), by simp⟩
    obtain ⟨t, ht⟩ : ∃ t, sA.extract 0 kk = t := ⟨_, rfl⟩
    have hcv := fun w => Lib.run_convert_string_bytes (P := Try.prog) w 9 22 5 t Try.underlying9 Try.underlying22 Try.underlying5
    have htl : t.size ≤ 9223372036854775807 := by rw [← ht, ByteArray.size_extract]; omega
    by_cases hab : a = b
    · subst hab
      go_wp2_with fail
      refine (take_no _ _ _ _ _ (bytes_of_text wB 5 t htl) (nums_length t).symm (by rw [← ht]; exact cut_bare HA.out hkk)).mono ?_
      rintro e w' ⟨rfl, rfl⟩
      go_wp2_with fail
      go_ret
      exact ⟨rfl, Hb2.out.trans ((below_text wB 5 t).mono Hb2.out.size)⟩
    · have hab' : ¬ (a : Int) = (b : Int) := by omega
      have hab2 : ((a : Int) != (b : Int)) = true := bne_iff_ne.2 (by omega)
      have Hcut := Lib.hid (cut_ne HA.out HB.out hab)
      clear hab
      by_cases hle : sA.size ≤ sB.size
      · obtain ⟨u, hu⟩ : ∃ u, sB.extract 0 sA.size = u := ⟨_, rfl⟩
        have hune : (u.toList == sA.toList) = false := str_ne (by rw [← hu]; exact Hcut.out)
        go_wp2_with fail
        refine (take_no _ _ _ _ _ (bytes_of_text wB 5 t htl) (nums_length t).symm (by rw [← ht]; exact cut_bare HA.out hkk)).mono ?_
        rintro e w' ⟨rfl, rfl⟩
        go_wp2_with fail
        go_ret
        exact ⟨rfl, Hb2.out.trans ((below_text wB 5 t).mono Hb2.out.size)⟩
      · go_wp2_with fail
        refine (take_no _ _ _ _ _ (bytes_of_text wB 5 t htl) (nums_length t).symm (by rw [← ht]; exact cut_bare HA.out hkk)).mono ?_
        rintro e w' ⟨rfl, rfl⟩
        go_wp2_with fail
        go_ret
        exact ⟨rfl, Hb2.out.trans ((below_text wB 5 t).mono Hb2.out.size)⟩
end Go.Proofs.Ytoimkldakiodpaa
