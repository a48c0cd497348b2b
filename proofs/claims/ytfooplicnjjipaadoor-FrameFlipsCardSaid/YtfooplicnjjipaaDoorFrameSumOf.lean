/- Package frame: a sum as four bytes. No law is proved here. -/
import Derived.Test.YtfooplicnjjipaaDoorCrcSum
import Derived.Test.YtfooplicnjjipaaDoorFrameMath
import Derived.Test.YtfooplicnjjipaaDoorSlOwn
import Derived.IntWalk
namespace Go.Proofs.YtfooplicnjjipaaDoor
open Go.RowKit

/-- a sum's four bytes, as an array -/
def fourV (s : Nat) : Value := .agg #[.int .u8 ((s % 256 : Nat) : Int), .int .u8 ((s / 256 % 256 : Nat) : Int), .int .u8 ((s / 65536 % 256 : Nat) : Int), .int .u8 ((s / 16777216 % 256 : Nat) : Int)]

set_option maxRecDepth 100000 in
set_option maxHeartbeats 4000000 in
theorem sumof_calls (v : Value) (zs : List Int) (w : World) (hB : Bytes w v zs) (hT : Tab w) :
    Calls Tryd.prog 17 #[v] w (fun e w' => e = .returned (fourV (CrcMath.sum zs)) ∧ Below w.heap.size w w') := by
  have HB := Lib.hid hB; clear hB
  have HT := Lib.hid hT; clear hT
  obtain ⟨S, HSS⟩ : ∃ z, Hid (CrcMath.sum zs = z) := ⟨_, rfl⟩
  have hS32 : S < 4294967296 := by rw [← HSS.out]; unfold CrcMath.sum; omega
  rw [HSS.out]
  go_enter Tryd.func17, Tryd.ntmps17
  go_wp2_with fail
  have hb1 := below_box w (.cells #[.int .u8 0, .int .u8 0, .int .u8 0, .int .u8 0] 40)
  have hb2 := hb1.trans ((Below.refl _ _).alloc hb1.size (.cells #[.int .u8 0, .int .u8 0, .int .u8 0, .int .u8 0] 40))
  have Hb2 := Lib.hid hb2
  clear hb1 hb2
  refine (sum_calls v zs _ (HB.out.later Hb2.out) (HT.out.later Hb2.out)).mono ?_
  rw [HSS.out]
  rintro e w' ⟨rfl, rfl⟩
  go_wp2_with fail
  refine wp_loop_rounds 5 ?_
  rw [rounds_succ]
  go_wp2_with fail
  rw [rounds_succ]
  go_wp2_with fail
  rw [rounds_succ]
  go_wp2_with fail
  rw [rounds_succ]
  go_wp2_with fail
  rw [rounds_succ]
  go_wp2_with fail
  have hd : S / 16777216 % 256 = S / 16777216 := Nat.mod_eq_of_lt (by omega)
  refine bodyPost_ret (v := fourV S) (by simp [results, Tryd.results17, go_sem, fourV, hd]) rfl ⟨rfl, ?_⟩
  exact below_two _ _ _
end Go.Proofs.YtfooplicnjjipaaDoor
