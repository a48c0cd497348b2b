/- The document's own, layer 11: are lines the same. No law is proved here. -/
import Derived.Test.YtefekkfocogghaaLineWords
import Derived.WalkKit
import Derived.ProofKit
import Derived.OpenShut
import Derived.WalkSpells
import Derived.Lib.Hide
import Derived.Deep.Draws
import Derived.Deep.Slices
import Derived.Deep.Fields
import Derived.ChangeSame
import Derived.RegionTactic
import Derived.WalkLawsBesides
import Derived.LoopTactic
import Derived.IntWalk
namespace Go.Proofs.Ytefekkfocogghaa
open Go.RowKit

/-- two requests, by !=: their fields -/
theorem run_neq_rq (w : World) (x y : Rq) : (binOp .neq 28 (rqV x) (rqV y)).run Try.prog w = .ok (.bool (!decide (x = y))) w := by
  obtain ⟨t, a, m⟩ := x
  obtain ⟨u, b, n⟩ := y
  by_cases h1 : t = u
  · subst h1
    by_cases h2 : a = b
    · subst h2
      by_cases h3 : m = n
      · subst h3; simp [go_sem, Try.underlying28, Try.underlying26]
      · have h4 : (m == n) = false := beq_eq_false_iff_ne.2 h3
        simp [go_sem, Try.underlying28, Try.underlying26, h3]
    · have h4 : (a == b) = false := beq_eq_false_iff_ne.2 h2
      simp [go_sem, Try.underlying28, Try.underlying26, h2]
  · have h4 : (t == u) = false := beq_eq_false_iff_ne.2 h1
    simp [go_sem, Try.underlying28, Try.underlying26, h1]
/-- a request and itself, by == -/
theorem run_eql_rq (w : World) (x : Rq) : (binOp .eql 28 (rqV x) (rqV x)).run Try.prog w = .ok (.bool true) w := by
  obtain ⟨t, a, m⟩ := x
  simp [go_sem, Try.underlying28, Try.underlying26]
set_option maxRecDepth 100000 in
set_option maxHeartbeats 4000000 in
theorem reflinesame_calls (a : Option Addr) (m d : Nat) (b : Option Addr) (n e : Nat) (la lb : List Rq) (hm : m = la.length) (hn : n = lb.length) (w : World) (hA : Line w (.slice a m d) la) (hB : Line w (.slice b n e) lb) :
    Calls Try.prog 11 #[.slice a m d, .slice b n e] w (Says w (sameQ la lb)) := by
  have hbm : m ≤ 9223372036854775807 := by rw [hm]; exact hA.big
  have hbn : n ≤ 9223372036854775807 := by rw [hn]; exact hB.big
  have HA := Lib.hid hA; clear hA
  have HB := Lib.hid hB; clear hB
  have Hm := Lib.hid hm; clear hm
  have Hn := Lib.hid hn; clear hn
  obtain ⟨res, Hres⟩ : ∃ z, Hid (sameQ la lb = z) := ⟨_, rfl⟩
  rw [Hres.out]
  by_cases hne : m ≠ n
  · obtain rfl : res = false := Hres.out.symm.trans (decide_eq_false fun h => hne (by rw [Hm.out, Hn.out, h]))
    have hne' : ((m : Int) != (n : Int)) = true := by simp; omega
    go_enter Try.func11, Try.ntmps11
    go_wp2_with fail
    go_ret
    exact ⟨rfl, Below.refl _ _⟩
  have hne' : m = n := by omega
  clear hne
  subst hne'
  go_enter Try.func11, Try.ntmps11
  go_wp2_with fail
  go_loopw [5] (fun x wr => ∃ k : Nat, k ≤ m ∧ x = .int .i64 k ∧ Hid (∀ q, q < k → rqAt la q = rqAt lb q) ∧ Hid (Below w.heap.size w wr)) (fun x _ => m - (intOf x).toNat)
  case atStart => exact ⟨0, Nat.zero_le _, rfl, fun q hq => absurd hq (Nat.not_lt_zero _), Below.refl _ _⟩
  case round =>
    obtain ⟨k, hk, rfl, Hl, Hb⟩ := hrel
    by_cases hlt : k < m
    · obtain ⟨g1, o1, rfl, c0, c1, c2⟩ := HA.out.at (i := k) (by have := Hm.out; omega)
      obtain ⟨g2, o2, rfl, d0, d1, d2⟩ := HB.out.at (i := k) (by have := Hn.out; omega)
      obtain ⟨x, Hx⟩ : ∃ z, Hid (rqAt la k = z) := ⟨_, rfl⟩
      obtain ⟨y, Hy⟩ : ∃ z, Hid (rqAt lb k = z) := ⟨_, rfl⟩
      replace c0 := cell_later Hb.out c0
      replace c1 := cell_later Hb.out c1
      replace c2 := cell_later Hb.out c2
      replace d0 := cell_later Hb.out d0
      replace d1 := cell_later Hb.out d1
      replace d2 := cell_later Hb.out d2
      rw [Hx.out] at c0 c1 c2
      rw [Hy.out] at d0 d1 d2
      have hne := fun w => run_neq_rq w x y
      by_cases hxy : x = y
      · rw [decide_eq_true hxy] at hne
        have Hxy := Lib.hid hxy; clear hxy
        go_wp2_with fail
        go_region
        all_goals go_wp2_with fail
        go_roundw
        case rel => exact ⟨k + 1, by omega, by go_num, (fun q hq => by
          by_cases e : q = k
          · subst e; rw [Hx.out, Hy.out]; exact Hxy.out
          · exact Hl.out q (by omega)), Hb.out.drew⟩
        case measure => simp [intOf]; omega
      · rw [decide_eq_false hxy] at hne
        obtain rfl : res = false := Hres.out.symm.trans (decide_eq_false fun h => hxy (by rw [← Hx.out, ← Hy.out, h]))
        clear hxy
        go_wp2_with fail
        go_region
        all_goals go_wp2_with fail
        go_ret
        exact ⟨by rfl, Hb.out.drew⟩
    · have hkm : k = m := by omega
      obtain rfl : res = true := Hres.out.symm.trans (decide_eq_true (rqAt_ext (by rw [← Hm.out, ← Hn.out]) fun q hq => Hl.out q (by have := Hm.out; omega)))
      have Hkm := Lib.hid hkm; clear hkm
      go_wp2_with fail
      go_ret
      exact ⟨by rfl, Hb.out⟩
end Go.Proofs.Ytefekkfocogghaa
