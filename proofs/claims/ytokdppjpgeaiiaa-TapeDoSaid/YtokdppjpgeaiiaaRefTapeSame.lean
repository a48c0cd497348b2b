/- The document's own, layer 7: the same tapes; is a tape short. No law is proved here. -/
import Derived.Test.YtokdppjpgeaiiaaTapeWords
namespace Go.Proofs.Ytokdppjpgeaiiaa
open Go.RowKit

theorem tstr_any {w : World} {v : Value} {zs : List Int} (hB : Bytes w v zs) : (convert 22 9 v).run Try.prog w = .ok (.string (strOfNums zs)) w :=
  run_string hB Try.underlying22 Try.underlying5 Try.underlying9

set_option maxRecDepth 100000 in
set_option maxHeartbeats 4000000 in
theorem reftsame_yes (x y : TpS) (t : Tp) (w : World) (hx : TB w x t) (hy : TB w y t) : Calls Try.prog 12 #[tpV x, tpV y] w (Says w true) := by
  obtain ⟨⟨⟨a1, n1, c1⟩, ⟨a2, n2, c2⟩⟩, ⟨⟨a3, n3, c3⟩, ⟨a4, n4, c4⟩⟩⟩ := x
  obtain ⟨⟨⟨a5, n5, c5⟩, ⟨a6, n6, c6⟩⟩, ⟨⟨a7, n7, c7⟩, ⟨a8, n8, c8⟩⟩⟩ := y
  obtain ⟨⟨z1, z2⟩, ⟨z3, z4⟩⟩ := t
  have hb : Below w.heap.size w ((w.alloc (.cells #[.slice a1 n1 c1, .slice a2 n2 c2, .slice a3 n3 c3, .slice a4 n4 c4] 26)).alloc (.cells #[.slice a5 n5 c5, .slice a6 n6 c6, .slice a7 n7 c7, .slice a8 n8 c8] 26)) := below_two w _ _
  have k1 := tstr_any ((hx.1.1.later hb).2.2)
  have k2 := tstr_any ((hx.1.2.later hb).2.2)
  have k3 := tstr_any ((hx.2.1.later hb).2.2)
  have k4 := tstr_any ((hx.2.2.later hb).2.2)
  have k5 := tstr_any ((hy.1.1.later hb).2.2)
  have k6 := tstr_any ((hy.1.2.later hb).2.2)
  have k7 := tstr_any ((hy.2.1.later hb).2.2)
  have k8 := tstr_any ((hy.2.2.later hb).2.2)
  simp only [slV] at k1 k2 k3 k4 k5 k6 k7 k8
  have s1 := str_same (rfl : strOfNums z1 = strOfNums z1)
  have s2 := str_same (rfl : strOfNums z2 = strOfNums z2)
  have s3 := str_same (rfl : strOfNums z3 = strOfNums z3)
  have s4 := str_same (rfl : strOfNums z4 = strOfNums z4)
  have Hb := Lib.hid hb
  clear hx hy hb
  show Calls Try.prog 12 #[.agg #[.slice a1 n1 c1, .slice a2 n2 c2, .slice a3 n3 c3, .slice a4 n4 c4], .agg #[.slice a5 n5 c5, .slice a6 n6 c6, .slice a7 n7 c7, .slice a8 n8 c8]] w _
  go_enter Try.func12, Try.ntmps12
  go_wp2_with fail
  go_ret
  exact ⟨by simp, Hb.out⟩

/-- a tape that isn't too much for a look -/
def shortT (t : Tp) : Bool := decide (t.m.s.length ≤ 70000 ∧ t.m.l.length ≤ 70000 ∧ t.s.s.length ≤ 70000 ∧ t.s.l.length ≤ 70000)
theorem shortT_fits {t : Tp} (h : shortT t = true) : t.fits 70000 := by
  have := of_decide_eq_true h
  exact ⟨⟨this.1, this.2.1⟩, this.2.2.1, this.2.2.2⟩

set_option maxRecDepth 100000 in
set_option maxHeartbeats 4000000 in
theorem reftshort_calls (x : TpS) (t : Tp) (w : World) (hx : TB w x t) : Calls Try.prog 7 #[tpV x] w (Says w (shortT t)) := by
  obtain ⟨⟨⟨a1, n1, c1⟩, ⟨a2, n2, c2⟩⟩, ⟨⟨a3, n3, c3⟩, ⟨a4, n4, c4⟩⟩⟩ := x
  have e1 := hx.1.1.1
  have e2 := hx.1.2.1
  have e3 := hx.2.1.1
  have e4 := hx.2.2.1
  simp only at e1 e2 e3 e4
  have hr : shortT t = decide (n1 ≤ 70000 ∧ n2 ≤ 70000 ∧ n3 ≤ 70000 ∧ n4 ≤ 70000) := by unfold shortT; rw [e1, e2, e3, e4]
  rw [hr]
  clear e1 e2 e3 e4 hr hx
  show Calls Try.prog 7 #[.agg #[.slice a1 n1 c1, .slice a2 n2 c2, .slice a3 n3 c3, .slice a4 n4 c4]] w _
  by_cases h1 : n1 ≤ 70000
  · by_cases h2 : n2 ≤ 70000
    · by_cases h3 : n3 ≤ 70000
      · by_cases h4 : n4 ≤ 70000
        · rw [decide_eq_true ⟨h1, h2, h3, h4⟩]
          go_enter Try.func7, Try.ntmps7
          go_wp2
          go_ret
          exact ⟨by simp; omega, below_box _ _⟩
        · rw [decide_eq_false (fun h => h4 h.2.2.2)]
          go_enter Try.func7, Try.ntmps7
          go_wp2
          go_ret
          exact ⟨by simp; omega, below_box _ _⟩
      · rw [decide_eq_false (fun h => h3 h.2.2.1)]
        go_enter Try.func7, Try.ntmps7
        go_wp2
        go_ret
        exact ⟨by simp, below_box _ _⟩
    · rw [decide_eq_false (fun h => h2 h.2.1)]
      go_enter Try.func7, Try.ntmps7
      go_wp2
      go_ret
      exact ⟨by simp, below_box _ _⟩
  · rw [decide_eq_false (fun h => h1 h.1)]
    go_enter Try.func7, Try.ntmps7
    go_wp2
    go_ret
    exact ⟨by simp, below_box _ _⟩
end Go.Proofs.Ytokdppjpgeaiiaa
