/- PackPuts, walked. -/
import Derived.Test.YtoimkldakiodpaaPackShort
namespace Go.Proofs.Ytoimkldakiodpaa
open Go.RowKit

theorem begins_put (x : Nat) (hx : x < 18446744073709551616) (r : List Int) : PackMath.Begins (PackMath.num x ++ r) x r := ⟨hx, rfl⟩
theorem begins_text (s : ByteArray) (hs : s.size ≤ 1000) : PackMath.Begins (textBytes s) s.size (nums s) := ⟨by omega, rfl⟩

set_option maxRecDepth 100000 in
set_option maxHeartbeats 2000000 in
theorem puts_small (W : World) (n c : Nat) (a : Option Addr) (zs : List Int) (x : Nat) (s : ByteArray) (hn : n = zs.length) (hnc : n ≤ c) (hB : Bytes W (.slice a n c) zs) (hx : x < 18446744073709551616) (h1 : n ≤ 1000) (h2 : s.size ≤ 1000) :
    Calls Try.prog 4 #[.slice a n c, .int .u64 (x : Int), .string s] W fun e W' => e = .returned (.bool true) ∧ Below W.heap.size W W' := by
  have h1' : ¬ 1000 < n := by omega
  have h2' : ¬ 1000 < s.size := by omega
  have HB := Lib.hid hB; clear hB
  have Hn := Lib.hid hn; clear hn
  have Hx := Lib.hid hx; clear hx
  go_enter Try.func4, Try.ntmps4
  go_wp2_with fail
  refine (awake_calls _).mono ?_
  rintro e w1 ⟨rfl, hb⟩
  have Hb1 := Lib.hid hb; clear hb
  go_wp2_with fail
  refine (put_calls a n c zs x Hx.out w1 (HB.out.later Hb1.out) Hn.out hnc (by omega)).mono ?_
  rintro e w2 ⟨v1, rfl, hb, hF1⟩
  have Hb2 := Lib.hid (Hb1.out.trans (hb.mono Hb1.out.size)); clear hb Hb1
  obtain ⟨g1, cap1, rfl, _, _, hl1, _⟩ := hF1.form
  have hlz : (zs ++ PackMath.num x).length ≤ 1010 := by
    have := PackMath.num_len_64 x Hx.out
    rw [List.length_append, ← Hn.out]; omega
  have HX0 := Lib.hid hF1.bytes
  have HF1 := Lib.hid hF1; clear hF1
  obtain ⟨l1, Hl1⟩ : ∃ l, Hid ((zs ++ PackMath.num x).length = l) := ⟨_, rfl⟩
  rw [Hl1.out] at HX0 HF1 hlz hl1 ⊢
  go_wp2_with fail
  refine (text_calls _ l1 cap1 (zs ++ PackMath.num x) s w2 HX0.out Hl1.out.symm hl1 (by omega) (by omega)).mono ?_
  rintro e w3 ⟨v2, rfl, hb, hF2⟩
  have HF1' := Lib.hid (HF1.out.later hb)
  have Hb3 := Lib.hid (Hb2.out.trans (hb.mono Hb2.out.size)); clear hb Hb2 HF1
  obtain ⟨g2, cap2, rfl, _, _, hl2, hl3⟩ := hF2.form
  have HX2 := Lib.hid hF2.bytes; clear hF2
  obtain ⟨s1, Hs1⟩ : ∃ t, Hid (strOfNums (zs ++ PackMath.num x) = t) := ⟨_, rfl⟩
  obtain ⟨s2, Hs2⟩ : ∃ t, Hid (strOfNums (zs ++ PackMath.num x ++ textBytes s) = t) := ⟨_, rfl⟩
  have Hp : Hid (∀ w, Below w3.heap.size w3 w → Calls Try.prog 14 #[.slice a n c, .int .u64 x] w (Made w (zs ++ PackMath.num x))) := fun w hw => refput_calls a n c zs x Hx.out w ((HB.out.later Hb3.out).later hw) Hn.out hnc (by omega)
  have Ht : Hid (∀ w, Below w3.heap.size w3 w → Calls Try.prog 15 #[.slice (some ⟨g1, 0, none⟩) l1 cap1, .string s] w (Made w (zs ++ PackMath.num x ++ textBytes s))) := fun w hw => reftext_calls _ l1 cap1 (zs ++ PackMath.num x) s w (HF1'.out.later hw).bytes Hl1.out.symm hl1 (by omega) (by omega)
  obtain ⟨l2, Hl2⟩ : ∃ l, Hid ((zs ++ PackMath.num x ++ textBytes s).length = l) := ⟨_, rfl⟩
  have HX1 := Lib.hid HF1'.out.bytes
  have hn2 : n ≤ l2 := by
    have := Hl2.out
    rw [List.length_append, List.length_append, ← Hn.out] at this
    omega
  rw [Hl2.out] at HX2 hl2 hl3 ⊢
  clear HF1' HX0
  go_wp2_with fail
  have HX2w := Lib.hid HX2.out
  have hdrop : (zs ++ PackMath.num x ++ textBytes s).drop n = PackMath.num x ++ textBytes s := by
    rw [Hn.out, List.append_assoc, List.drop_left]
  obtain ⟨vy, hvy, hvyB, ay, cy, hvyF, hcy⟩ := piece_from (lo := n) HX2.out Hl2.out.symm hn2 hl2
  rw [hdrop] at hvyB
  have HvyB := Lib.hid hvyB; clear hvyB hdrop
  go_region_held (fun w => Below w3.heap.size w3 w ∧ (convert 22 9 (.slice (some ⟨g1, 0, none⟩) l1 cap1)).run Try.prog w = .ok (.string s1) w ∧ (convert 22 9 (.slice (some ⟨g2, 0, none⟩) l2 cap2)).run Try.prog w = .ok (.string s2) w)
    (first | exact keep_two Hs1.out Hs2.out HX1.out HX2.out (Below.refl _ _).drew | (refine keep_two Hs1.out Hs2.out HX1.out HX2.out ?_; assumption))
    (first
      | (go_at_call 14; refine (Hp.out _ (Below.refl _ _).drew).mono ?_; rintro e w4 ⟨v3, rfl, hb4, hF3⟩; have hS4 : Below w3.heap.size w3 w4 := (Below.refl _ _).drew.trans hb4; have hcv3 := str_any hF3.bytes; rw [Hs1.out] at hcv3)
      | (go_at_call 15; refine (Ht.out _ hS4).mono ?_; rintro e w5 ⟨v4, rfl, hb5, hF4⟩; have hS5 : Below w3.heap.size w3 w5 := hS4.trans (hb5.mono hS4.size); have hcv4 := str_any hF4.bytes; rw [Hs2.out] at hcv4))
  go_wp2_with fail
  have hly : l2 - n = (PackMath.num x ++ textBytes s).length := by
    rw [← Hl2.out, Hn.out, List.append_assoc, List.length_append]; omega
  subst hvyF
  obtain ⟨v6, hc6, hv6, a6, rfl⟩ := take_yes _ _ _ _ _ x w5 (HvyB.out.later hS5) hly hcy (begins_put x Hx.out _)
  refine hc6.mono ?_
  rintro e w' ⟨rfl, rfl⟩
  have HV6 := Lib.hid hv6; clear hc6 hv6
  obtain ⟨l6, Hl6⟩ : ∃ l, Hid ((textBytes s).length = l) := ⟨_, rfl⟩
  rw [Hl6.out] at HV6 ⊢
  go_wp2_with fail
  have hsn := nums_length s
  obtain ⟨v7, hc7, _, a7, hv7⟩ := ttext_yes _ l6 l6 _ _ s.size w5 HV6.out Hl6.out.symm (Nat.le_refl _) (begins_text s h2) (by omega)
  rw [hsn, Nat.sub_self] at hv7
  subst hv7
  refine hc7.mono ?_
  rintro e w8 ⟨rfl, m8, hw8⟩
  have e8 : strOfNums ((nums s).take s.size) = s := by rw [← hsn, List.take_length, strOf_nums]
  have Hb8 : Hid (Below W.heap.size W w8) := by rw [hw8]; exact below_drewN (Hb3.out.trans (hS5.mono Hb3.out.size)) m8
  rw [e8]
  clear e8 hw8 hc7 hsn
  go_wp2_with fail
  go_ret
  exact ⟨rfl, Hb8.out⟩

theorem puts_law (W : World) (n c : Nat) (a : Option Addr) (zs : List Int) (x : Nat) (hx : x < 18446744073709551616) (s : ByteArray) (hs : s.size ≤ 9223372036854775807) (hn : n = zs.length) (hnc : n ≤ c) (hB : Bytes W (.slice a n c) zs) :
    Calls Try.prog 4 #[.slice a n c, .int .u64 (x : Int), .string s] W fun e W' => e = .returned (.bool true) ∧ Below W.heap.size W W' := by
  by_cases h1 : n ≤ 1000
  · by_cases h2 : s.size ≤ 1000
    · exact puts_small W n c a zs x s hn hnc hB hx h1 h2
    · have h1' : ¬ 1000 < n := by omega
      have h2' : 1000 < s.size := by omega
      clear hn hnc hB hx
      go_enter Try.func4, Try.ntmps4
      go_wp2_with fail
      refine (awake_calls _).mono ?_
      rintro e w1 ⟨rfl, hb⟩
      have Hb1 := Lib.hid hb; clear hb
      go_wp2_with fail
      go_ret
      exact ⟨rfl, Hb1.out⟩
  · have h1' : 1000 < n := by omega
    have hbig := hB.1
    rw [← hn] at hbig
    clear hn hnc hB hx
    go_enter Try.func4, Try.ntmps4
    go_wp2_with fail
    refine (awake_calls _).mono ?_
    rintro e w1 ⟨rfl, hb⟩
    have Hb1 := Lib.hid hb; clear hb
    go_wp2_with fail
    go_ret
    exact ⟨rfl, Hb1.out⟩
end Go.Proofs.Ytoimkldakiodpaa
