/- Tick, and the document's own, by what they answer; what the laws ask of both first. -/
import Derived.Test.YtblfjekdejndfaaStampBase
import Derived.Deep.RegionHeld
namespace Go.Proofs.Ytblfjekdejndfaa
open Go.RowKit

/-- what a tick answers: the time -/
def tickT (a b : Int) : Int := if a < 0 ∨ b < 0 then 0 else if 1125899906842624 ≤ a ∨ 1125899906842624 ≤ b then 0 else if a < b then b + 1 else a + 1
/-- what a tick answers: the code -/
def tickC (a b : Int) : Int := if a < 0 ∨ b < 0 then 1 else if 1125899906842624 ≤ a ∨ 1125899906842624 ≤ b then 6 else 0

def Ticks (w : World) (a b : Int) (e : Ending) (w' : World) : Prop := e = .returned (.tuple #[.int .i64 (tickT a b), .int .i64 (tickC a b)]) ∧ w = w'
theorem Ticks.mk {w : World} {a b t c : Int} (h : tickT a b = t ∧ tickC a b = c) : Ticks w a b (.returned (.tuple #[.int .i64 t, .int .i64 c])) w := ⟨by rw [h.1, h.2], rfl⟩
theorem tick_arg {a b : Int} (h : a < 0 ∨ b < 0) : tickT a b = 0 ∧ tickC a b = 1 := by simp [tickT, tickC, h]
theorem tick_range {a b : Int} (h : ¬ (a < 0 ∨ b < 0)) (g : 1125899906842624 ≤ a ∨ 1125899906842624 ≤ b) : tickT a b = 0 ∧ tickC a b = 6 := by
  unfold tickT tickC; rw [if_neg h, if_neg h, if_pos g, if_pos g]; exact ⟨rfl, rfl⟩
theorem tick_b {a b : Int} (h : ¬ (a < 0 ∨ b < 0)) (g : ¬ (1125899906842624 ≤ a ∨ 1125899906842624 ≤ b)) (k : a < b) : tickT a b = b + 1 ∧ tickC a b = 0 := by
  unfold tickT tickC; rw [if_neg h, if_neg h, if_neg g, if_neg g, if_pos k]; exact ⟨rfl, rfl⟩
theorem tick_a {a b : Int} (h : ¬ (a < 0 ∨ b < 0)) (g : ¬ (1125899906842624 ≤ a ∨ 1125899906842624 ≤ b)) (k : ¬ a < b) : tickT a b = a + 1 ∧ tickC a b = 0 := by
  unfold tickT tickC; rw [if_neg h, if_neg h, if_neg g, if_neg g, if_neg k]; exact ⟨rfl, rfl⟩

set_option maxHeartbeats 400000 in
theorem tick_calls (a b : Int) (w : World) : Calls Try.prog 12 #[.int .i64 a, .int .i64 b] w (Ticks w a b) := by
  by_cases h1 : a < 0
  · have H := Lib.hid (tick_arg (Or.inl h1 : a < 0 ∨ b < 0))
    go_enter Try.func12, Try.ntmps12
    go_wp2_with fail
    go_ret2
    exact Ticks.mk H.out
  · by_cases h2 : b < 0
    · have H := Lib.hid (tick_arg (Or.inr h2 : a < 0 ∨ b < 0))
      go_enter Try.func12, Try.ntmps12
      go_wp2_with fail
      go_ret2
      exact Ticks.mk H.out
    · by_cases h3 : a < b
      · by_cases h4 : 1125899906842624 ≤ b
        · have H := Lib.hid (tick_range (by omega : ¬ (a < 0 ∨ b < 0)) (Or.inr h4))
          go_enter Try.func12, Try.ntmps12
          go_wp2_with fail
          go_ret2
          exact Ticks.mk H.out
        · have H := Lib.hid (tick_b (by omega : ¬ (a < 0 ∨ b < 0)) (by omega) h3)
          go_enter Try.func12, Try.ntmps12
          go_wp2_with fail
          go_ret2
          exact Ticks.mk H.out
      · by_cases h4 : 1125899906842624 ≤ a
        · have H := Lib.hid (tick_range (by omega : ¬ (a < 0 ∨ b < 0)) (Or.inl h4))
          go_enter Try.func12, Try.ntmps12
          go_wp2_with fail
          go_ret2
          exact Ticks.mk H.out
        · have H := Lib.hid (tick_a (by omega : ¬ (a < 0 ∨ b < 0)) (by omega) h3)
          go_enter Try.func12, Try.ntmps12
          go_wp2_with fail
          go_ret2
          exact Ticks.mk H.out

set_option maxHeartbeats 400000 in
theorem reftick_calls (a b : Int) (w : World) : Calls Try.prog 13 #[.int .i64 a, .int .i64 b] w (Ticks w a b) := by
  by_cases h1 : a < 0
  · have H := Lib.hid (tick_arg (Or.inl h1 : a < 0 ∨ b < 0))
    go_enter Try.func13, Try.ntmps13
    go_wp2_with fail
    go_ret2
    exact Ticks.mk H.out
  · by_cases h2 : b < 0
    · have H := Lib.hid (tick_arg (Or.inr h2 : a < 0 ∨ b < 0))
      go_enter Try.func13, Try.ntmps13
      go_wp2_with fail
      go_ret2
      exact Ticks.mk H.out
    · by_cases h3 : a < b
      · by_cases h4 : 1125899906842624 ≤ b
        · have H := Lib.hid (tick_range (by omega : ¬ (a < 0 ∨ b < 0)) (Or.inr h4))
          go_enter Try.func13, Try.ntmps13
          go_wp2_with fail
          go_ret2
          exact Ticks.mk H.out
        · have H := Lib.hid (tick_b (by omega : ¬ (a < 0 ∨ b < 0)) (by omega) h3)
          go_enter Try.func13, Try.ntmps13
          go_wp2_with fail
          go_ret2
          exact Ticks.mk H.out
      · by_cases h4 : 1125899906842624 ≤ a
        · have H := Lib.hid (tick_range (by omega : ¬ (a < 0 ∨ b < 0)) (Or.inl h4))
          go_enter Try.func13, Try.ntmps13
          go_wp2_with fail
          go_ret2
          exact Ticks.mk H.out
        · have H := Lib.hid (tick_a (by omega : ¬ (a < 0 ∨ b < 0)) (by omega) h3)
          go_enter Try.func13, Try.ntmps13
          go_wp2_with fail
          go_ret2
          exact Ticks.mk H.out

theorem tick_37 (w : World) : Calls Try.prog 12 #[.int .i64 3, .int .i64 7] w fun e w' => e = .returned (.tuple #[.int .i64 8, .int .i64 0]) ∧ w = w' := tick_calls 3 7 w

set_option maxRecDepth 100000 in
set_option maxHeartbeats 400000 in
theorem awake_calls (w : World) : Calls Try.prog 7 #[] w (Says w true) := by
  have Ho := Lib.hid (fun w => older_calls 5 1 5 2 w)
  have Hm := Lib.hid (fun w => may_calls 1 0 1 w)
  rw [show olderB 5 1 5 2 = true from rfl] at Ho
  rw [show mayB 1 0 1 = true from rfl] at Hm
  go_enter Try.func7, Try.ntmps7
  go_wp2_with fail
  refine (tick_37 _).mono ?_
  rintro e w' ⟨rfl, rfl⟩
  go_wp2_with fail
  refine (Ho.out _).mono ?_
  rintro e w1 ⟨rfl, hb⟩
  have Hb1 := Lib.hid hb; clear hb
  go_wp2_with fail
  refine (Hm.out _).mono ?_
  rintro e w2 ⟨rfl, hb⟩
  have Hb2 := Lib.hid (Hb1.out.trans (hb.mono Hb1.out.size)); clear hb
  go_wp2_with fail
  go_ret
  exact ⟨rfl, Hb2.out⟩

theorem tick_above {a b : Int} : ¬ tickC a b = 0 ∨ (a < tickT a b ∧ b < tickT a b) := by
  unfold tickC tickT
  split
  · left; omega
  · split
    · left; omega
    · right
      split <;> omega

set_option maxRecDepth 100000 in
set_option maxHeartbeats 400000 in
theorem ticks_law (W : World) (a b : Int) : Calls Try.prog 4 #[.int .i64 a, .int .i64 b] W (Says W true) := by
  have h := tick_above (a := a) (b := b)
  obtain ⟨t, Ht⟩ : ∃ t, Hid (tickT a b = t) := ⟨_, rfl⟩
  obtain ⟨c, Hc⟩ : ∃ c, Hid (tickC a b = c) := ⟨_, rfl⟩
  rw [Ht.out, Hc.out] at h
  have H1 := Lib.hid (fun w => tick_calls a b w)
  have H2 := Lib.hid (fun w => reftick_calls a b w)
  unfold Ticks at H1 H2
  rw [Ht.out, Hc.out] at H1 H2
  rcases h with h | ⟨h1, h2⟩
  · have hc : (c == 0) = false := beq_eq_false_iff_ne.2 h
    have hc' : (c != 0) = true := bne_iff_ne.2 h
    clear h
    go_enter Try.func4, Try.ntmps4
    go_wp2_with fail
    refine (awake_calls _).mono ?_
    rintro e w1 ⟨rfl, hb⟩
    have Hb1 := Lib.hid hb; clear hb
    go_wp2_with fail
    refine (H1.out _).mono ?_
    rintro e w' ⟨rfl, rfl⟩
    go_wp2_with fail
    refine (H2.out _).mono ?_
    rintro e w' ⟨rfl, rfl⟩
    go_wp2_with fail
    go_ret
    exact ⟨rfl, Hb1.out⟩
  · go_enter Try.func4, Try.ntmps4
    go_wp2_with fail
    refine (awake_calls _).mono ?_
    rintro e w1 ⟨rfl, hb⟩
    have Hb1 := Lib.hid hb; clear hb
    go_wp2_with fail
    refine (H1.out _).mono ?_
    rintro e w' ⟨rfl, rfl⟩
    go_wp2_with fail
    refine (H2.out _).mono ?_
    rintro e w' ⟨rfl, rfl⟩
    by_cases hc : c = 0
    · subst hc
      go_wp2_with fail
      go_ret
      exact ⟨rfl, Hb1.out⟩
    · have hc1 : (c == 0) = false := beq_eq_false_iff_ne.2 hc
      have hc' : (c != 0) = true := bne_iff_ne.2 hc
      clear hc
      go_wp2_with fail
      go_ret
      exact ⟨rfl, Hb1.out⟩
end Go.Proofs.Ytblfjekdejndfaa
