/- Package want: the last ones, rounding down. No law is proved here. -/
import Derived.Test.YtbcmoepbegbnpaaRefWant
import Derived.Test.YtbcmoepbegbnpaaWantFloor
import Derived.Test.YtbcmoepbegbnpaaConcatN
namespace Go.Proofs.Ytbcmoepbegbnpaa
open Go.RowKit

theorem floor_entry (x : Nat) (hx : x < 9007199254740992) (w : World) : (callFunc 17 #[.float .f64 (F x (-1))]).run Try.prog w = .ok (.value (.float .f64 (F (x / 2) 0))) w := by
  rw [run_callFunc_extern Try.func17 (by kernel_rfl) (by kernel_rfl) (by kernel_rfl) (e := Extern.MathFloor.toIntegral "math.archFloor" .down) (by kernel_rfl), run_floor w hx]
  rfl
theorem floor_calls (x : Nat) (hx : x < 9007199254740992) (w : World) : Calls Try.prog 15 #[.float .f64 (F x (-1))] w (fun e w' => e = .returned (.float .f64 (F (x / 2) 0)) ∧ w' = w) := by
  have hd := fun W => floor_entry x hx W
  generalize F x (-1) = X at *
  generalize F (x / 2) 0 = Y at *
  go_enter Try.func15, Try.ntmps15
  go_wp2_with fail
  go_ret
  exact ⟨rfl, rfl⟩
theorem down_calls (x y : Nat) (hx : x < 9007199254740992) (hy : y < 9007199254740992) (w : World) :
    Calls Try.prog 13 #[.complex .f64 (F x (-1)) (F y (-1))] w (fun e w' => e = .returned (.complex .f64 (F (x / 2) 0) (F (y / 2) 0)) ∧ w' = w) := by
  have h1 := fun W => floor_calls x hx W
  have h2 := fun W => floor_calls y hy W
  have H1 := Lib.hid h1; have H2 := Lib.hid h2; clear h1 h2
  generalize F x (-1) = X at *
  generalize F (x / 2) 0 = X' at *
  generalize F y (-1) = Y at *
  generalize F (y / 2) 0 = Y' at *
  go_enter Try.func13, Try.ntmps13
  go_wp2_with fail
  refine (H1.out w).mono ?_
  rintro e w1 ⟨rfl, rfl⟩
  go_wp2_with fail
  refine (H2.out _).mono ?_
  rintro e w2 ⟨rfl, rfl⟩
  go_wp2_with fail
  go_ret
  exact ⟨rfl, rfl⟩
theorem last_calls (a : Option Addr) (m d : Nat) (l : List Int) (hm : m = l.length) (hs : m ≤ 1000000) (n : Nat) (h0 : 0 < n) (hn : n ≤ 1000000) (w : World) (hA : Nums w (.slice a m d) l) :
    Calls Try.prog 12 #[.slice a m d, .int .i64 (n : Int)] w (fun e w' => ∃ A C, e = .returned (.slice A (l.drop (m - n)).length C) ∧ Nums w' (.slice A (l.drop (m - n)).length C) (l.drop (m - n)) ∧ w' = w) := by
  have hcap := hA.cap
  by_cases hle : m ≤ n
  · have hz : m - n = 0 := by omega
    rw [hz, List.drop_zero, ← hm]
    clear hz
    have Hm := Lib.hid hm; clear hm
    have HA := Lib.hid hA; clear hA
    have Hcap := Lib.hid hcap; clear hcap
    rcases (by omega : m = n ∨ m < n) with e | e
    · have e1 : (m : Int) - (n : Int) = 0 := by omega
      have E := Lib.hid e; clear e hle
      go_enter Try.func12, Try.ntmps12
      go_wp2_with fail
      all_goals go_ret
      all_goals exact ⟨_, _, rfl, HA.out, rfl⟩
    · have e1 : (m : Int) - (n : Int) < 0 := by omega
      have E := Lib.hid e; clear e hle
      go_enter Try.func12, Try.ntmps12
      go_wp2_with fail
      all_goals go_ret
      all_goals exact ⟨_, _, rfl, HA.out, rfl⟩
  · obtain ⟨b, o, rfl, _⟩ := hA.at (i := 0) (by omega)
    have hn3 := hA.from (j := m - n) (by omega)
    have hkl : (l.drop (m - n)).length = m - (m - n) := by rw [List.length_drop, hm]
    rw [hkl]
    have e1 : (m : Int) - (n : Int) = ((m - n : Nat) : Int) := by omega
    have e2 : 0 < m - n := by omega
    have e3 : m - n < d := by omega
    have e4 : m - n ≤ m := by omega
    have HN := Lib.hid hn3
    clear hn3 hkl hA
    obtain ⟨j, Hj⟩ : ∃ z, Hid (m - n = z) := ⟨_, rfl⟩
    rw [Hj.out] at e1 e2 e3 e4 HN ⊢
    have kw : IntKind.i64.wrap ((m : Int) - (n : Int)) = (j : Int) := by rw [e1]; exact IntWalk.i64_in _ (by omega)
    have g1 : ¬ d = j := by omega
    have g2 : (0 : Int) < (j : Int) := by omega
    have E1 := Lib.hid e1; clear e1
    have Hm := Lib.hid hm; clear hm
    have Hcap := Lib.hid hcap; clear hcap hle
    go_enter Try.func12, Try.ntmps12
    go_wp2_with fail
    all_goals go_ret
    all_goals exact ⟨_, _, rfl, HN.out, rfl⟩
end Go.Proofs.Ytbcmoepbegbnpaa
