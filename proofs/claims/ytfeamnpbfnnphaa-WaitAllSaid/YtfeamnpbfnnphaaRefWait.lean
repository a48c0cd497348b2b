/- The document's own, layer 10: Bound, Wait. No law is proved here. -/
import Derived.Test.YtfeamnpbfnnphaaWaitMath
import Derived.WalkKit
import Derived.ProofKit
import Derived.OpenShut
import Derived.WalkSpells
import Derived.Lib.Hide
import Derived.Deep.Draws
import Derived.LoopTactic
import Derived.IntWalk
namespace Go.Proofs.Ytfeamnpbfnnphaa
open Go.RowKit

theorem refbound_out (p t : Int) (w : World) (h : p < 1 ∨ 16 < p) :
    Calls Try.prog 8 #[.int .i64 p, .int .i64 t] w (fun e w' => e = .returned (.int .i64 0) ∧ Below w.heap.size w w') := by
  by_cases h1 : p < 1
  · clear h
    go_enter Try.func8, Try.ntmps8
    go_wp2_with fail
    go_ret
    exact ⟨rfl, Below.refl _ _⟩
  · have h2 : 16 < p := by omega
    clear h
    go_enter Try.func8, Try.ntmps8
    go_wp2_with fail
    go_ret
    exact ⟨rfl, Below.refl _ _⟩
set_option maxRecDepth 100000 in
set_option maxHeartbeats 2000000 in
theorem refbound_in (p t : Int) (w : World) (h1 : 1 ≤ p) (h2 : p ≤ 16) :
    Calls Try.prog 8 #[.int .i64 p, .int .i64 t] w (fun e w' => e = .returned (.int .i64 (boundV p t : Nat)) ∧ Below w.heap.size w w') := by
  obtain ⟨B, HB⟩ : ∃ B, Hid (boundV p t = B) := ⟨_, rfl⟩
  rw [HB.out]
  go_enter Try.func8, Try.ntmps8
  go_wp2_with fail
  go_loop [5, 6] (fun b i => ∃ k q : Nat, k ≤ 10 ∧ i = .int .i64 k ∧ b = .int .i64 q ∧ q ≤ 1024 ∧ Hid (q = 2 ^ k) ∧ Hid (k ≤ heldN t)) (fun _ i => 10 - (intOf i).toNat)
  case atStart => exact ⟨0, 1, by omega, rfl, rfl, by omega, rfl, Nat.zero_le _⟩
  case round =>
    obtain ⟨k, q, hk, rfl, rfl, hq, Hq, Hk⟩ := hrel
    by_cases hlt : (k : Int) < t ∧ k < 10
    · obtain ⟨hlt1, hlt2⟩ := hlt
      have hq2 : 2 * q ≤ 1024 := by rw [Hq.out, ← two_next]; exact two_le (by omega)
      go_wp2_with fail
      go_round
      case rel => exact ⟨k + 1, 2 * q, by omega, by go_num, by go_num, by omega, show _ = _ by rw [Hq.out, two_next], show _ ≤ _ by unfold heldN; omega⟩
      case measure => simp [intOf]; omega
    · have hke : heldN t = k := by have := Hk.out; unfold heldN at this ⊢; omega
      have hB : B = min q p.toNat := by rw [← HB.out, boundV_in t h1 h2, hke, Hq.out]
      by_cases hqp : p < (q : Int)
      · have hBp : (B : Int) = p := by omega
        have HBp := Lib.hid hBp
        clear hBp hB hke
        by_cases hkt : (k : Int) < t
        · have hk10 : k = 10 := by omega
          subst hk10
          clear hlt
          go_wp2_with fail
          go_ret
          exact ⟨by rw [HBp.out]; rfl, Below.refl _ _⟩
        · clear hlt
          go_wp2_with fail
          go_ret
          exact ⟨by rw [HBp.out]; rfl, Below.refl _ _⟩
      · have hBp : B = q := by omega
        subst hBp
        clear hB hke
        by_cases hkt : (k : Int) < t
        · have hk10 : k = 10 := by omega
          subst hk10
          clear hlt
          go_wp2_with fail
          go_ret
          exact ⟨rfl, Below.refl _ _⟩
        · clear hlt
          go_wp2_with fail
          go_ret
          exact ⟨rfl, Below.refl _ _⟩
theorem refbound_calls (p t : Int) (w : World) :
    Calls Try.prog 8 #[.int .i64 p, .int .i64 t] w (fun e w' => e = .returned (.int .i64 (boundV p t : Nat)) ∧ Below w.heap.size w w') := by
  by_cases h : p < 1 ∨ 16 < p
  · rw [boundV_out t h]
    exact refbound_out p t w h
  · exact refbound_in p t w (by omega) (by omega)
set_option maxRecDepth 100000 in
set_option maxHeartbeats 2000000 in
theorem refwait_calls (p t : Int) (d : Nat) (hd : d < 4294967296) (w : World) :
    Calls Try.prog 10 #[.int .i64 p, .int .i64 t, .int .u32 d] w (fun e w' => e = .returned (.int .i64 (waitV p t d : Nat)) ∧ Below w.heap.size w w') := by
  have hB16 := boundV_le p t
  obtain ⟨V, HV⟩ : ∃ V, Hid (waitV p t d = V) := ⟨_, rfl⟩
  have hVd : V = if boundV p t = 0 then 0 else d % boundV p t + 1 := HV.out.symm
  rw [HV.out]
  have hcall := refbound_calls p t w
  obtain ⟨B, HB⟩ : ∃ B, Hid (boundV p t = B) := ⟨_, rfl⟩
  rw [HB.out] at hB16 hVd hcall
  clear HV
  go_enter Try.func10, Try.ntmps10
  go_wp2_with fail
  refine hcall.mono ?_
  clear hcall
  rintro e w1 ⟨rfl, hb⟩
  have Hb := Lib.hid hb; clear hb
  by_cases h0 : B = 0
  · subst h0
    have hV : V = 0 := hVd
    subst hV
    clear hVd
    go_wp2_with fail
    go_ret
    exact ⟨rfl, Hb.out⟩
  · rw [if_neg h0] at hVd
    have hV17 : V ≤ 16 := by have := Nat.mod_lt d (Nat.pos_of_ne_zero h0); omega
    have HVd := Lib.hid hVd; clear hVd
    have hpos : 1 ≤ B := by omega
    have hB0 : ((B : Int) == 0) = false := beq_eq_false_iff_ne.2 (by omega)
    clear h0
    go_wp2_with fail
    go_loop [2] (fun v => ∃ r : Nat, v = .int .u32 r ∧ r < 4294967296 ∧ Hid (r % B = d % B)) (fun v => (intOf v).toNat)
    case atStart => exact ⟨d, rfl, hd, rfl⟩
    case round =>
      obtain ⟨r, rfl, hr, Hr⟩ := hrel
      by_cases hge : B ≤ r
      · have hm : r % B < B := Nat.mod_lt _ (by omega)
        have hm2 : r % B < r := by omega
        obtain ⟨m, Hm⟩ : ∃ m, Hid (r % B = m) := ⟨_, rfl⟩
        have hmod : (r : Int) % (B : Int) = (m : Int) := by rw [← Hm.out]; rfl
        rw [Hm.out] at hm hm2
        have hmm : m % B = m := Nat.mod_eq_of_lt hm
        have Hmm := Lib.hid hmm; clear hmm
        go_wp2_with fail
        go_round
        case rel => exact ⟨m, by go_num, by omega, show _ = _ by rw [Hmm.out, ← Hm.out, Hr.out]⟩
        case measure => simp [intOf]; omega
      · have hrV : V = r + 1 := by rw [HVd.out, ← Hr.out, Nat.mod_eq_of_lt (by omega)]
        subst hrV
        go_wp2_with fail
        go_ret
        exact ⟨by simp, Hb.out⟩
end Go.Proofs.Ytfeamnpbfnnphaa
