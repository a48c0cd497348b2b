/- Package wait, walked: Bound and Wait. No law is proved here. -/
import Derived.Test.YtfeamnpbfnnphaaRefWait
namespace Go.Proofs.Ytfeamnpbfnnphaa
open Go.RowKit

theorem wbound_out (p t : Int) (w : World) (h : p < 1 ∨ 16 < p) :
    Calls Try.prog 7 #[.int .i64 p, .int .i64 t] w (fun e w' => e = .returned (.int .i64 0) ∧ Below w.heap.size w w') := by
  by_cases h1 : p < 1
  · clear h
    go_enter Try.func7, Try.ntmps7
    go_wp2_with fail
    go_step3
    go_wp2_with fail
    try rw [Exit.noGoto_ret]
    go_ret
    exact ⟨rfl, Below.refl _ _⟩
  · have h2 : 16 < p := by omega
    clear h
    go_enter Try.func7, Try.ntmps7
    go_wp2_with fail
    go_step3
    go_wp2_with fail
    try rw [Exit.noGoto_ret]
    go_ret
    exact ⟨rfl, Below.refl _ _⟩
set_option maxRecDepth 100000 in
set_option maxHeartbeats 2000000 in
theorem wbound_in (p t : Int) (w : World) (h1 : 1 ≤ p) (h2 : p ≤ 16) :
    Calls Try.prog 7 #[.int .i64 p, .int .i64 t] w (fun e w' => e = .returned (.int .i64 (boundV p t : Nat)) ∧ Below w.heap.size w w') := by
  obtain ⟨B, HB⟩ : ∃ B, Hid (boundV p t = B) := ⟨_, rfl⟩
  rw [HB.out]
  go_enter Try.func7, Try.ntmps7
  go_wp2_with fail
  go_step3
  go_wp2_with fail
  go_step3
  go_wp2_with fail
  go_loop [5, 13] (fun b i => ∃ k q : Nat, k ≤ 10 ∧ i = .int .i64 k ∧ b = .int .i64 q ∧ (q : Int) ≤ p ∧ Hid (q = 2 ^ k) ∧ Hid (k ≤ heldN t)) (fun _ i => 10 - (intOf i).toNat)
  case atStart => exact ⟨0, 1, by omega, rfl, rfl, by omega, rfl, Nat.zero_le _⟩
  case round =>
    obtain ⟨k, q, hk, rfl, rfl, hq, Hq, Hk⟩ := hrel
    have hk10 : k < 10 := by
      rcases Nat.lt_or_ge k 10 with h | h
      · exact h
      · have e : k = 10 := by omega
        subst e
        have := Hq.out
        omega
    by_cases hlt : (k : Int) < t
    · by_cases hqp : p ≤ 2 * (q : Int)
      · have hBp : (B : Int) = p := by
          rw [← HB.out, boundV_in t h1 h2]
          have e1 : k + 1 ≤ heldN t := by unfold heldN; omega
          have e2 : 2 ^ (k + 1) ≤ 2 ^ heldN t := Nat.pow_le_pow_right (by decide) e1
          have e3 : 2 ^ (k + 1) = 2 * q := by rw [two_next, Hq.out]
          omega
        have HBp := Lib.hid hBp
        clear hBp
        go_wp2_with fail
        go_ret
        exact ⟨by rw [HBp.out]; rfl, Below.refl _ _⟩
      · go_wp2_with fail
        go_round
        case rel => exact ⟨k + 1, 2 * q, by omega, by go_num, by go_num, by omega, show _ = _ by rw [Hq.out, two_next], show _ ≤ _ by unfold heldN; omega⟩
        case measure => simp [intOf]; omega
    · have hBq : B = q := by
        rw [← HB.out, boundV_in t h1 h2]
        have e1 : heldN t = k := by have := Hk.out; unfold heldN at this ⊢; omega
        rw [e1, ← Hq.out]
        omega
      subst hBq
      go_wp2_with fail
      go_ret
      exact ⟨rfl, Below.refl _ _⟩
theorem wBound_calls (p t : Int) (w : World) :
    Calls Try.prog 7 #[.int .i64 p, .int .i64 t] w (fun e w' => e = .returned (.int .i64 (boundV p t : Nat)) ∧ Below w.heap.size w w') := by
  by_cases h : p < 1 ∨ 16 < p
  · rw [boundV_out t h]
    exact wbound_out p t w h
  · exact wbound_in p t w (by omega) (by omega)
set_option maxRecDepth 100000 in
set_option maxHeartbeats 2000000 in
theorem wWait_calls (p t : Int) (d : Nat) (hd : d < 4294967296) (w : World) :
    Calls Try.prog 9 #[.int .i64 p, .int .i64 t, .int .u32 d] w (fun e w' => e = .returned (.int .i64 (waitV p t d : Nat)) ∧ Below w.heap.size w w') := by
  have hB16 := boundV_le p t
  obtain ⟨V, HV⟩ : ∃ V, Hid (waitV p t d = V) := ⟨_, rfl⟩
  have hVd : V = if boundV p t = 0 then 0 else d % boundV p t + 1 := HV.out.symm
  rw [HV.out]
  have hcall := wBound_calls p t w
  obtain ⟨B, HB⟩ : ∃ B, Hid (boundV p t = B) := ⟨_, rfl⟩
  rw [HB.out] at hB16 hVd hcall
  clear HV
  go_enter Try.func9, Try.ntmps9
  go_wp2_with fail
  refine hcall.mono ?_
  clear hcall
  rintro e w1 ⟨rfl, hb⟩
  have Hb := Lib.hid hb; clear hb
  by_cases h0 : B = 0
  · subst h0
    have hV : V = 0 := hVd
    subst hV
    clear hVd
    go_wp2_with fail
    go_ret
    exact ⟨rfl, Hb.out⟩
  · rw [if_neg h0] at hVd
    have hV17 : V ≤ 16 := by have := Nat.mod_lt d (Nat.pos_of_ne_zero h0); omega
    obtain ⟨m, Hm⟩ : ∃ m, Hid (d % B = m) := ⟨_, rfl⟩
    rw [Hm.out] at hVd
    subst hVd
    have hmB : m < B := by rw [← Hm.out]; exact Nat.mod_lt _ (by omega)
    have hmod : (d : Int) % (B : Int) = (m : Int) := by rw [← Hm.out]; rfl
    have hB0 : ((B : Int) == 0) = false := beq_eq_false_iff_ne.2 (by omega)
    clear h0
    go_wp2_with fail
    go_ret
    exact ⟨by simp, Hb.out⟩
end Go.Proofs.Ytfeamnpbfnnphaa
