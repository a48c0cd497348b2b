/- StampOldest, walked. -/
import Derived.Test.YtblfjekdejndfaaStampRows
namespace Go.Proofs.Ytblfjekdejndfaa
open Go.RowKit

theorem same_stamp (t a : Int) (w : World) : (binOp .eql 23 (.agg #[.int .i64 t, .int .i64 a]) (.agg #[.int .i64 t, .int .i64 a])).run Try.prog w = .ok (.bool true) w := by
  have := run_eql_stamp w t a t a
  rw [this]; simp

set_option maxRecDepth 100000 in
set_option maxHeartbeats 1000000 in
theorem oldest_law (W : World) (a : Option Addr) (n c : Nat) (l : List (Int × Int)) (hn : n = l.length) (hS : Stamps W (.slice a n c) l) :
    Calls Try.prog 5 #[.slice a n c] W (Says W true) := by
  have hbig : n ≤ 9223372036854775807 := by rw [hn]; exact hS.1
  have HS := Lib.hid hS; clear hS
  have Hn := Lib.hid hn; clear hn
  by_cases h3 : 1000 < n
  · go_enter Try.func5, Try.ntmps5
    go_wp2_with fail
    refine (awake_calls _).mono ?_
    rintro e w1 ⟨rfl, hb⟩
    have Hb1 := Lib.hid hb; clear hb
    go_wp2_with fail
    go_ret
    exact ⟨rfl, Hb1.out⟩
  · obtain ⟨yt, yw, Hy⟩ : ∃ yt yw, Hid (best l = (yt, yw)) := ⟨_, _, rfl⟩
    have heq := same_stamp yt yw
    go_enter Try.func5, Try.ntmps5
    go_wp2_with fail
    refine (awake_calls _).mono ?_
    rintro e w1 ⟨rfl, hb⟩
    have Hb1 := Lib.hid hb; clear hb
    go_wp2_with fail
    refine (oldest_calls a n c l Hn.out _ (HS.out.later Hb1.out)).mono ?_
    rintro e w2 ⟨rfl, hb⟩
    rw [Hy.out]
    have Hb2 := Lib.hid (held_next Hb1.out hb); clear hb
    have Hb3 := Lib.hid (Hb2.out.alloc Hb2.out.size (.cells #[.int .i64 yt, .int .i64 yw] 23))
    have HW2 := Lib.hid (Whole.made w2 23 #[.int .i64 yt, .int .i64 yw])
    go_wp2_with fail
    refine (refoldest_calls a n c l Hn.out _ (HS.out.later Hb3.out)).mono ?_
    rintro e w3 ⟨rfl, hb⟩
    rw [Hy.out]
    have HW3 := Lib.hid (HW2.out.later hb HW2.out.lt)
    have Hb4 := Lib.hid (held_next Hb3.out hb)
    have hsz := HW3.out.lt
    clear hb
    have d0 : w3.cell? ⟨w2.heap.size, 0, none⟩ = some (.int .i64 yt) := HW3.out.cell 0
    have d1 : w3.cell? ⟨w2.heap.size, 1, none⟩ = some (.int .i64 yw) := HW3.out.cell 1
    go_wp2_with fail
    go_ret
    exact ⟨rfl, Hb4.out.alloc Hb4.out.size _⟩
end Go.Proofs.Ytblfjekdejndfaa
