/- Law WaitAll, walked: each wait from 1 to the bound is drawn by some number. The law itself is stated in WaitCards. -/
import Derived.Test.YtfeamnpbfnnphaaWaitAwake
namespace Go.Proofs.Ytfeamnpbfnnphaa
open Go.RowKit

set_option maxRecDepth 100000 in
set_option maxHeartbeats 2000000 in
theorem waitall_law (p t x : Nat) (hp : p < 256) (ht : t < 256) (hx : x < 256) (w : World) :
    Calls Try.prog 5 #[.int .u8 p, .int .u8 t, .int .u8 x] w (Says w true) := by
  obtain ⟨q, Hq⟩ : ∃ q, Hid (p % 16 = q) := ⟨_, rfl⟩
  have hq : q < 16 := by rw [← Hq.out]; omega
  have hpm : (p : Int) % 16 = (q : Int) := by rw [← Hq.out]; rfl
  have hk1 : (1 : Int) ≤ 1 + (q : Int) := by omega
  have hk2 : 1 + (q : Int) ≤ 16 := by omega
  have hB1 := boundV_pos (t : Int) hk1 hk2
  have hBk := boundV_top (t : Int) hk1 hk2
  have hV := fun d => waitV_in (t : Int) d hk1 hk2
  have c1 := fun w => wBound_calls (1 + (q : Int)) (t : Int) w
  have c2 := fun d hd w => wWait_calls (1 + (q : Int)) (t : Int) d hd w
  simp only [hV] at c2
  obtain ⟨B, HB⟩ : ∃ B, Hid (boundV (1 + (q : Int)) (t : Int) = B) := ⟨_, rfl⟩
  simp only [HB.out] at hB1 hBk c1 c2
  obtain ⟨m, Hm⟩ : ∃ m, Hid (x % B = m) := ⟨_, rfl⟩
  have hmB : m < B := by rw [← Hm.out]; exact Nat.mod_lt _ (by omega)
  have hxm : (x : Int) % (B : Int) = (m : Int) := by rw [← Hm.out]; rfl
  have c3 := fun w => c2 m (by omega) w
  have c4 := fun w => c2 (m + B) (by omega) w
  simp only [Nat.add_mod_right, Nat.mod_eq_of_lt hmB] at c3 c4
  have hB0 : ((B : Int) == 0) = false := beq_eq_false_iff_ne.2 (by omega)
  have C1 := Lib.hid c1; have C3 := Lib.hid c3; have C4 := Lib.hid c4
  clear c1 c2 c3 c4 hV hk1 hk2
  go_enter Try.func5, Try.ntmps5
  go_wp2_with fail
  refine (awake10 _).mono ?_
  rintro e w1 ⟨rfl, hb⟩
  have Hb1 := Lib.hid hb
  clear hb
  go_wp2_with fail
  refine (C1.out w1).mono ?_
  rintro e w2 ⟨rfl, hb⟩
  have Hb2 := Lib.hid (held_next Hb1.out hb)
  clear hb
  go_wp2_with fail
  rw [show (1 + (m : Int) - 1) = (m : Int) by omega]
  refine (C3.out w2).mono ?_
  rintro e w3 ⟨rfl, hb⟩
  have Hb3 := Lib.hid (held_next Hb2.out hb)
  clear hb
  go_wp2_with fail
  rw [show (1 + (m : Int) - 1 + (B : Int)) = ((m + B : Nat) : Int) by omega]
  refine (C4.out w3).mono ?_
  rintro e w4 ⟨rfl, hb⟩
  have Hb4 := Lib.hid (held_next Hb3.out hb)
  clear hb
  go_wp2_with fail
  go_ret
  exact ⟨by simp, Hb4.out⟩
end Go.Proofs.Ytfeamnpbfnnphaa
