/- awake and the laws of layer 2, walked. -/
import Derived.Test.YtoimkldakiodpaaPackText
namespace Go.Proofs.Ytoimkldakiodpaa
open Go.RowKit

theorem bytes_new (w : World) (T : TypeId) (m : Nat × Nat) (zs : List Int) (hs : ∀ c ∈ zs, 0 ≤ c ∧ c < 256) (hl : zs.length ≤ 9223372036854775807) :
    Bytes (w.alloc (.cells (zs.map (Value.int .u8)).toArray T m)) (.slice (some ⟨w.heap.size, 0, none⟩) zs.length zs.length) zs := by
  refine ⟨hl, hs, Or.inr ⟨w.heap.size, 0, zs.length, rfl, fun j hj => ?_⟩⟩
  rw [Nat.zero_add]
  apply cell_new
  simp [List.getElem?_map, List.getElem?_eq_getElem hj, List.getD_eq_getElem?_getD]

theorem num_300 : PackMath.num 300 = [172, 2] := by
  rw [PackMath.num_ge (by decide), PackMath.num_lt (by decide)]; rfl
theorem begins_300 : PackMath.Begins [172, 2, 9] 300 [9] := ⟨by decide, by rw [num_300]; rfl⟩
theorem begins_2 : PackMath.Begins [2, 97, 98] 2 [97, 98] := ⟨by decide, by rw [PackMath.num_lt (by decide)]; rfl⟩
theorem bare_80 : PackMath.Bare [128, 0] := by
  intro v rest _ e
  by_cases h : v < 128
  · rw [PackMath.num_lt h] at e
    simp at e
    omega
  · rw [PackMath.num_ge (by omega)] at e
    simp only [List.cons_append, List.cons.injEq] at e
    obtain ⟨_, e2⟩ := e
    by_cases h2 : v / 128 < 128
    · rw [PackMath.num_lt h2] at e2
      simp at e2
      omega
    · rw [PackMath.num_ge (by omega)] at e2
      simp only [List.cons_append, List.cons.injEq] at e2
      omega

set_option maxRecDepth 100000 in
set_option maxHeartbeats 1000000 in
theorem awake_calls (w : World) :
    Calls Try.prog 7 #[] w fun e w' => e = .returned (.bool true) ∧ Below w.heap.size w w' := by
  have hb1 : Bytes (w.alloc (.cells #[.int .u8 172, .int .u8 2, .int .u8 9] 5)) (.slice (some ⟨w.heap.size, 0, none⟩) 3 3) [172, 2, 9] := bytes_new w _ _ [172, 2, 9] (by decide) (by decide)
  obtain ⟨v1, hc1, _, a1, rfl⟩ := take_yes _ 3 3 _ _ 300 _ hb1 rfl (Nat.le_refl _) begins_300
  have H1 := Lib.hid hc1; clear hc1 hb1
  go_enter Try.func7, Try.ntmps7
  go_wp2_with fail
  refine H1.out.mono ?_
  rintro e w' ⟨rfl, rfl⟩
  clear H1
  have Hb1 := Lib.hid (((Below.refl _ _).alloc (Nat.le_refl _) _ : Below w.heap.size w (w.alloc (.cells #[.int .u8 172, .int .u8 2, .int .u8 9] 5))))
  generalize w.alloc (.cells #[.int .u8 172, .int .u8 2, .int .u8 9] 5) = w1 at Hb1 ⊢
  go_wp2_with fail
  have hb2 : Bytes (w1.alloc (.cells #[.int .u8 128, .int .u8 0] 5)) (.slice (some ⟨w1.heap.size, 0, none⟩) 2 2) [128, 0] := bytes_new w1 _ _ [128, 0] (by decide) (by decide)
  refine (take_no _ 2 2 _ _ hb2 rfl bare_80).mono ?_
  rintro e w' ⟨rfl, rfl⟩
  clear hb2
  have Hb2 := Lib.hid (((Hb1.out).alloc Hb1.out.size _ : Below w.heap.size w (w1.alloc (.cells #[.int .u8 128, .int .u8 0] 5))))
  clear Hb1
  generalize w1.alloc (.cells #[.int .u8 128, .int .u8 0] 5) = w2 at Hb2 ⊢
  go_wp2_with fail
  have hb3 : Bytes (w2.alloc (.cells #[.int .u8 2, .int .u8 97, .int .u8 98] 5)) (.slice (some ⟨w2.heap.size, 0, none⟩) 3 3) [2, 97, 98] := bytes_new w2 _ _ [2, 97, 98] (by decide) (by decide)
  obtain ⟨v3, hc3, _, a3, rfl⟩ := ttext_yes _ 3 3 _ _ 2 _ hb3 rfl (Nat.le_refl _) begins_2 (by decide)
  refine hc3.mono ?_
  rintro e w' ⟨rfl, m3, rfl⟩
  clear hb3 hc3
  have Hb3 := Lib.hid (below_drewN (((Hb2.out).alloc Hb2.out.size _ : Below w.heap.size w (w2.alloc (.cells #[.int .u8 2, .int .u8 97, .int .u8 98] 5)))) m3)
  clear Hb2
  generalize (w2.alloc (.cells #[.int .u8 2, .int .u8 97, .int .u8 98] 5)).drewN m3 = w3 at Hb3 ⊢
  go_wp2_with fail
  refine (put_calls none 0 0 [] 300 (by decide) w3 (bytes_nil _ _ _ (fun _ => rfl)) rfl (Nat.le_refl _) (by decide)).mono ?_
  rintro e w4 ⟨v4, rfl, hb4, hF4⟩
  have Hb4 := Lib.hid (Hb3.out.trans (hb4.mono Hb3.out.size))
  have hcv := str_any hF4.bytes
  rw [List.nil_append, num_300] at hcv
  clear hb4 hF4
  have e1 : strOfNums [172, 2] = ⟨#[172, 2]⟩ := rfl
  have e2 : strOfNums [97, 98] = ⟨#[97, 98]⟩ := rfl
  rw [e1] at hcv
  rw [e2]
  clear e1 e2
  go_wp2_with fail
  go_ret
  exact ⟨rfl, Hb4.out⟩

theorem str_begins {zs r : List Int} {x : Nat} (h : PackMath.Begins zs x r) : strOfNums (PackMath.num x) ++ strOfNums r = strOfNums zs := by
  rw [h.2, strOf_append]

set_option maxRecDepth 100000 in
set_option maxHeartbeats 1000000 in
theorem takes_none (W : World) (zs : List Int) (n c : Nat) (a : Option Addr) (hn : n = zs.length) (hnc : n ≤ c) (hB : Bytes W (.slice a n c) zs) (h3 : n ≤ 1000) (hx : PackMath.Bare zs) :
    Calls Try.prog 3 #[.slice a n c] W fun e W' => e = .returned (.bool true) ∧ Below W.heap.size W W' := by
  have h3' : ¬ 1000 < n := by omega
  have hbig := hB.1
  rw [← hn] at hbig
  have HB := Lib.hid hB; clear hB
  have Hx := Lib.hid hx; clear hx
  have Hn := Lib.hid hn; clear hn
  go_enter Try.func3, Try.ntmps3
  go_wp2_with fail
  refine (awake_calls _).mono ?_
  rintro e w1 ⟨rfl, hb⟩
  have Hb1 := Lib.hid hb; clear hb
  go_wp2_with fail
  refine (take_no _ _ _ zs _ (HB.out.later Hb1.out) Hn.out Hx.out).mono ?_
  rintro e w' ⟨rfl, rfl⟩
  go_wp2_with fail
  refine (reftake_no _ _ _ zs _ (HB.out.later Hb1.out) Hn.out hnc Hx.out).mono ?_
  rintro e w2 ⟨rfl, hb⟩
  have Hb2 := Lib.hid (Hb1.out.trans (hb.mono Hb1.out.size)); clear hb
  go_wp2_with fail
  refine (ttext_no _ _ _ zs _ (HB.out.later Hb2.out) Hn.out hnc (Or.inl Hx.out)).mono ?_
  rintro e w' ⟨rfl, rfl⟩
  go_wp2_with fail
  refine (refttext_no _ _ _ zs _ (HB.out.later Hb2.out) Hn.out hnc (Or.inl Hx.out)).mono ?_
  rintro e w3 ⟨rfl, hb⟩
  have Hb3 := Lib.hid (Hb2.out.trans (hb.mono Hb2.out.size)); clear hb
  have hcv := str_any (bytes_nil w3 none 0 (fun _ => rfl))
  rw [show strOfNums [] = ByteArray.empty from rfl] at hcv
  go_wp2_with fail
  go_quiet (fail)
  go_wp2_with fail
  go_ret
  exact ⟨rfl, below_drewN Hb3.out _⟩

theorem keep_two {w W : World} {v u : Value} {zs xs : List Int} {s t : ByteArray} (hs : strOfNums zs = s) (ht : strOfNums xs = t) (hB : Bytes w v zs) (hU : Bytes w u xs) (h : Below w.heap.size w W) :
    Below w.heap.size w W ∧ (convert 22 9 v).run Try.prog W = .ok (.string s) W ∧ (convert 22 9 u).run Try.prog W = .ok (.string t) W := by
  subst hs; subst ht
  exact ⟨h, str_any (hB.later h), str_any (hU.later h)⟩

set_option maxRecDepth 100000 in
set_option maxHeartbeats 2000000 in
theorem takes_text (W : World) (zs r : List Int) (x n c : Nat) (a : Option Addr) (hn : n = zs.length) (hnc : n ≤ c) (hB : Bytes W (.slice a n c) zs) (h3 : n ≤ 1000) (hx : PackMath.Begins zs x r) (hxr : x ≤ r.length) :
    Calls Try.prog 3 #[.slice a n c] W fun e W' => e = .returned (.bool true) ∧ Below W.heap.size W W' := by
  have h3' : ¬ 1000 < n := by omega
  have hbig := hB.1
  rw [← hn] at hbig
  have HB := Lib.hid hB; clear hB
  have Hx := Lib.hid hx; clear hx
  have Hn := Lib.hid hn; clear hn
  go_enter Try.func3, Try.ntmps3
  go_wp2_with fail
  refine (awake_calls _).mono ?_
  rintro e w1 ⟨rfl, hb⟩
  have Hb1 := Lib.hid hb; clear hb
  go_wp2_with fail
  obtain ⟨v1, hc1, hv1, _⟩ := take_yes _ _ _ zs r x _ (HB.out.later Hb1.out) Hn.out hnc Hx.out
  refine hc1.mono ?_
  rintro e w' ⟨rfl, rfl⟩
  have HV1 := Lib.hid hv1; clear hc1 hv1
  go_wp2_with fail
  obtain ⟨v2, hc2, hv2, _⟩ := reftake_yes _ _ _ zs r x _ (HB.out.later Hb1.out) Hn.out hnc Hx.out
  refine hc2.mono ?_
  rintro e w2 ⟨rfl, hb⟩
  have HV1' := Lib.hid (HV1.out.later hb)
  have HV2 := Lib.hid (hv2.later hb)
  have Hb2 := Lib.hid (Hb1.out.trans (hb.mono Hb1.out.size)); clear hb hc2 hv2 HV1
  go_wp2_with fail
  obtain ⟨v3, hc3, hv3, _⟩ := ttext_yes _ _ _ zs r x _ (HB.out.later Hb2.out) Hn.out hnc Hx.out hxr
  refine hc3.mono ?_
  rintro e w3 ⟨rfl, m3, hw3⟩
  have Hb3 : Hid (Below W.heap.size W w3) := by rw [hw3]; exact below_drewN Hb2.out m3
  have HV1 : Hid (Bytes w3 v1 r) := by rw [hw3]; exact HV1'.out
  have HV2' : Hid (Bytes w3 v2 r) := by rw [hw3]; exact HV2.out
  have HV3 : Hid (Bytes w3 v3 (r.drop x)) := by rw [hw3]; exact hv3
  clear hc3 hv3 hw3 HV1' HV2 Hb2
  go_wp2_with fail
  obtain ⟨v4, hc4, hv4⟩ := refttext_yes _ _ _ zs r x _ (HB.out.later Hb3.out) Hn.out hnc Hx.out hxr
  refine hc4.mono ?_
  rintro e w4 ⟨rfl, hb⟩
  have Hb4 := Lib.hid (Hb3.out.trans (hb.mono Hb3.out.size))
  have HV := Lib.hid (HV1.out.later hb)
  obtain ⟨sR, HsR⟩ : ∃ s, Hid (strOfNums r = s) := ⟨_, rfl⟩
  obtain ⟨sT, HsT⟩ : ∃ s, Hid (strOfNums (r.take x) = s) := ⟨_, rfl⟩
  obtain ⟨sD, HsD⟩ : ∃ s, Hid (strOfNums (r.drop x) = s) := ⟨_, rfl⟩
  obtain ⟨sN, HsN⟩ : ∃ s, Hid (strOfNums (PackMath.num x) = s) := ⟨_, rfl⟩
  obtain ⟨sZ, HsZ⟩ : ∃ s, Hid (strOfNums zs = s) := ⟨_, rfl⟩
  have hcv1 := str_any (HV1.out.later hb)
  have hcv2 := str_any (HV2'.out.later hb)
  have hcv3 := str_any (HV3.out.later hb)
  have hcv4 := str_any (hv4.later hb)
  rw [HsR.out] at hcv1 hcv2
  rw [HsD.out] at hcv3 hcv4
  rw [HsT.out]
  clear hb hc4 hv4 HV1 HV2' HV3 Hb3
  go_wp2_with fail
  clear hcv1 hcv2 hcv3 hcv4
  have hadd : ∀ w : World, (Op.stringOp .add sN sR).run Try.prog w = .ok (.string sZ) w := fun w => by
    have e : sN ++ sR = sZ := by rw [← HsN.out, ← HsR.out, ← HsZ.out]; exact str_begins Hx.out
    have hz : sN.size + sR.size = zs.length := by
      rw [← HsN.out, ← HsR.out, strOfNums_size, strOfNums_size, Hx.out.2, List.length_append]
    have hz2 := Hn.out
    rw [← e]
    exact run_string_add_sum w sN sR (by omega)
  have HBz := Lib.hid (HB.out.later Hb4.out)
  have Hp : Hid (∀ W1, Calls Try.prog 12 #[.slice none 0 0, .int .u64 x] W1 (Made W1 (PackMath.num x))) := fun W1 => put_calls none 0 0 [] x Hx.out.1 W1 (bytes_nil W1 _ _ (fun _ => rfl)) rfl (Nat.le_refl 0) (by omega)
  go_region_held (fun W1 => Below w4.heap.size w4 W1 ∧ (convert 22 9 v1).run Try.prog W1 = .ok (.string sR) W1 ∧ (convert 22 9 (.slice a n c)).run Try.prog W1 = .ok (.string sZ) W1)
    (first | exact keep_two HsR.out HsZ.out HV.out HBz.out (Below.refl _ _).drew | (refine keep_two HsR.out HsZ.out HV.out HBz.out ?_; assumption))
    (first | (go_at_call 12; refine (Hp.out _).mono ?_; rintro e W' ⟨v', rfl, hb', hF'⟩; have hS' : Below w4.heap.size w4 W' := (Below.refl _ _).drew.trans hb'; have hcv := str_any hF'.bytes; rw [HsN.out] at hcv))
  go_wp2_with fail
  go_ret
  exact ⟨rfl, Hb4.out.trans (hS'.mono Hb4.out.size)⟩

set_option maxRecDepth 100000 in
set_option maxHeartbeats 2000000 in
theorem takes_bare (W : World) (zs r : List Int) (x n c : Nat) (a : Option Addr) (hn : n = zs.length) (hnc : n ≤ c) (hB : Bytes W (.slice a n c) zs) (h3 : n ≤ 1000) (hx : PackMath.Begins zs x r) (hxr : r.length < x) :
    Calls Try.prog 3 #[.slice a n c] W fun e W' => e = .returned (.bool true) ∧ Below W.heap.size W W' := by
  have h3' : ¬ 1000 < n := by omega
  have hbig := hB.1
  rw [← hn] at hbig
  have HB := Lib.hid hB; clear hB
  have Hx := Lib.hid hx; clear hx
  have Hn := Lib.hid hn; clear hn
  go_enter Try.func3, Try.ntmps3
  go_wp2_with fail
  refine (awake_calls _).mono ?_
  rintro e w1 ⟨rfl, hb⟩
  have Hb1 := Lib.hid hb; clear hb
  go_wp2_with fail
  obtain ⟨v1, hc1, hv1, _⟩ := take_yes _ _ _ zs r x _ (HB.out.later Hb1.out) Hn.out hnc Hx.out
  refine hc1.mono ?_
  rintro e w' ⟨rfl, rfl⟩
  have HV1 := Lib.hid hv1; clear hc1 hv1
  go_wp2_with fail
  obtain ⟨v2, hc2, hv2, _⟩ := reftake_yes _ _ _ zs r x _ (HB.out.later Hb1.out) Hn.out hnc Hx.out
  refine hc2.mono ?_
  rintro e w2 ⟨rfl, hb⟩
  have HV1' := Lib.hid (HV1.out.later hb)
  have HV2 := Lib.hid (hv2.later hb)
  have Hb2 := Lib.hid (Hb1.out.trans (hb.mono Hb1.out.size)); clear hb hc2 hv2 HV1
  go_wp2_with fail
  have Hno : Hid (NoText zs) := Or.inr ⟨x, r, Hx.out, hxr⟩
  refine (ttext_no _ _ _ zs _ (HB.out.later Hb2.out) Hn.out hnc Hno.out).mono ?_
  rintro e w3 ⟨rfl, hw3⟩
  have Hb3 : Hid (Below W.heap.size W w3) := by rw [← hw3]; exact Hb2.out
  have HV1 : Hid (Bytes w3 v1 r) := by rw [← hw3]; exact HV1'.out
  have HV2' : Hid (Bytes w3 v2 r) := by rw [← hw3]; exact HV2.out
  clear hw3 HV1' HV2 Hb2
  go_wp2_with fail
  refine (refttext_no _ _ _ zs _ (HB.out.later Hb3.out) Hn.out hnc Hno.out).mono ?_
  rintro e w4 ⟨rfl, hb⟩
  have Hb4 := Lib.hid (Hb3.out.trans (hb.mono Hb3.out.size))
  have HV := Lib.hid (HV1.out.later hb)
  obtain ⟨sR, HsR⟩ : ∃ s, Hid (strOfNums r = s) := ⟨_, rfl⟩
  obtain ⟨sN, HsN⟩ : ∃ s, Hid (strOfNums (PackMath.num x) = s) := ⟨_, rfl⟩
  obtain ⟨sZ, HsZ⟩ : ∃ s, Hid (strOfNums zs = s) := ⟨_, rfl⟩
  have hcv1 := str_any (HV1.out.later hb)
  have hcv2 := str_any (HV2'.out.later hb)
  have hcv3 := str_any (bytes_nil w4 none 0 (fun _ => rfl))
  rw [show strOfNums [] = ByteArray.empty from rfl] at hcv3
  rw [HsR.out] at hcv1 hcv2
  clear hb HV1 HV2' Hb3
  go_wp2_with fail
  clear hcv1 hcv2 hcv3
  have hadd : ∀ w : World, (Op.stringOp .add sN sR).run Try.prog w = .ok (.string sZ) w := fun w => by
    have e : sN ++ sR = sZ := by rw [← HsN.out, ← HsR.out, ← HsZ.out]; exact str_begins Hx.out
    have hz : sN.size + sR.size = zs.length := by
      rw [← HsN.out, ← HsR.out, strOfNums_size, strOfNums_size, Hx.out.2, List.length_append]
    have hz2 := Hn.out
    rw [← e]
    exact run_string_add_sum w sN sR (by omega)
  have HBz := Lib.hid (HB.out.later Hb4.out)
  have Hp : Hid (∀ W1, Calls Try.prog 12 #[.slice none 0 0, .int .u64 x] W1 (Made W1 (PackMath.num x))) := fun W1 => put_calls none 0 0 [] x Hx.out.1 W1 (bytes_nil W1 _ _ (fun _ => rfl)) rfl (Nat.le_refl 0) (by omega)
  go_region_held (fun W1 => Below w4.heap.size w4 W1 ∧ (convert 22 9 v1).run Try.prog W1 = .ok (.string sR) W1 ∧ (convert 22 9 (.slice a n c)).run Try.prog W1 = .ok (.string sZ) W1)
    (first | exact keep_two HsR.out HsZ.out HV.out HBz.out (Below.refl _ _).drew | (refine keep_two HsR.out HsZ.out HV.out HBz.out ?_; assumption))
    (first | (go_at_call 12; refine (Hp.out _).mono ?_; rintro e W' ⟨v', rfl, hb', hF'⟩; have hS' : Below w4.heap.size w4 W' := (Below.refl _ _).drew.trans hb'; have hcv := str_any hF'.bytes; rw [HsN.out] at hcv))
  go_wp2_with fail
  go_ret
  exact ⟨rfl, Hb4.out.trans (hS'.mono Hb4.out.size)⟩

theorem takes_law (W : World) (n c : Nat) (a : Option Addr) (zs : List Int) (hn : n = zs.length) (hnc : n ≤ c) (hB : Bytes W (.slice a n c) zs) :
    Calls Try.prog 3 #[.slice a n c] W fun e W' => e = .returned (.bool true) ∧ Below W.heap.size W W' := by
  by_cases h3 : n ≤ 1000
  · rcases PackMath.begins_or zs with ⟨x, r, hx⟩ | hx
    · by_cases hxr : x ≤ r.length
      · exact takes_text W zs r x n c a hn hnc hB h3 hx hxr
      · exact takes_bare W zs r x n c a hn hnc hB h3 hx (by omega)
    · exact takes_none W zs n c a hn hnc hB h3 hx
  · have h3' : 1000 < n := by omega
    have hbig := hB.1
    rw [← hn] at hbig
    clear hn hB hnc
    go_enter Try.func3, Try.ntmps3
    go_wp2_with fail
    refine (awake_calls _).mono ?_
    rintro e w1 ⟨rfl, hb⟩
    have Hb1 := Lib.hid hb; clear hb
    go_wp2_with fail
    go_ret
    exact ⟨rfl, Hb1.out⟩
end Go.Proofs.Ytoimkldakiodpaa
