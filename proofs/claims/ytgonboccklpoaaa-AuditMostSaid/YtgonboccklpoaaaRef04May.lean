/- The document's own, walked: may a row be. No law is proved here. -/
import Derived.Test.YtgonboccklpoaaaRightsWords
import Derived.RangeFuncNested
import Derived.RangeFuncBound
import Derived.RangeFuncLeaves
import Derived.RangeFuncBox
import Derived.WalkKit
import Derived.Laws.MakeOwn
import Derived.Maps.AppendAt
import Derived.ProofKit
import Derived.OpenShut
import Derived.WalkSpells
import Derived.Laws.AppendOwn
import Derived.Laws.AppendOwnNone
import Derived.Laws.OwnMore
import Derived.Lib.Hide
import Derived.Deep.Draws
import Derived.Deep.Slices
import Derived.Deep.Fields
import Derived.ChangeSame
import Derived.RegionTactic
import Derived.LoopTactic
import Derived.WalkSmall
namespace Go.Proofs.Ytgonboccklpoaaa
open Go.RowKit

set_option maxRecDepth 100000 in
set_option maxHeartbeats 4000000 in
theorem refmay_no (a : Option Addr) (m c : Nat) (i u n who : Int) (w : World) (h : who < 0 ∨ n ≤ who ∨ (m : Int) ≠ n ∨ i < 0 ∨ 1099511627776 < i ∨ u < 0 ∨ 1099511627776 < u) : Calls Try.prog 18 #[rowV i u (.slice a m c), .int .i64 n, .int .i64 who] w (Says w false) := by
  by_cases h1 : who < 0
  · clear h
    go_enter Try.func18, Try.ntmps18
    go_wp2
    go_ret
    exact ⟨rfl, below_box _ _⟩
  by_cases h2 : n ≤ who
  · clear h
    go_enter Try.func18, Try.ntmps18
    go_wp2
    go_ret
    exact ⟨rfl, below_box _ _⟩
  by_cases h3 : (m : Int) ≠ n
  · clear h
    have h3' : ((m : Int) != n) = true := bne_iff_ne.2 h3
    go_enter Try.func18, Try.ntmps18
    go_wp2
    go_ret
    exact ⟨rfl, below_box _ _⟩
  have h3e : (m : Int) = n := by omega
  clear h3
  have h3 : ¬ ((m : Int) ≠ n) := fun k => k h3e
  subst h3e
  by_cases h4 : i < 0
  · clear h
    go_enter Try.func18, Try.ntmps18
    go_wp2
    go_ret
    exact ⟨rfl, below_box _ _⟩
  by_cases h5 : 1099511627776 < i
  · clear h
    go_enter Try.func18, Try.ntmps18
    go_wp2
    go_ret
    exact ⟨rfl, below_box _ _⟩
  by_cases h6 : u < 0
  · clear h
    go_enter Try.func18, Try.ntmps18
    go_wp2
    go_ret
    exact ⟨rfl, below_box _ _⟩
  by_cases h7 : 1099511627776 < u
  · clear h
    go_enter Try.func18, Try.ntmps18
    go_wp2
    go_ret
    exact ⟨rfl, below_box _ _⟩
  omega
set_option maxRecDepth 100000 in
set_option maxHeartbeats 4000000 in
theorem refmay_loop (a : Option Addr) (m c : Nat) (i u who : Int) (la : List Int) (hm : m = la.length) (w : World) (hA : Nums w (.slice a m c) la) (h1 : 0 ≤ who) (h2 : who < (m : Int)) (h4 : 0 ≤ i) (h5 : i ≤ 1099511627776) (h6 : 0 ≤ u) (h7 : u ≤ 1099511627776) :
    Calls Try.prog 18 #[rowV i u (.slice a m c), .int .i64 (m : Int), .int .i64 who] w (Says w (mayR i u la m who)) := by
  have hbig : m ≤ 9223372036854775807 := by rw [hm]; exact hA.1
  obtain ⟨b, Hbb⟩ : ∃ b, Hid (mayR i u la m who = b) := ⟨_, rfl⟩
  rw [Hbb.out]
  have HA := Lib.hid hA; clear hA
  have Hm := Lib.hid hm; clear hm
  have HW := Lib.hid (Whole.made w 58 #[.int .i64 i, .int .i64 u, .slice a m c])
  go_enter Try.func18, Try.ntmps18
  go_wp2
  go_loopw [7] (fun x wr => ∃ k : Nat, k ≤ m ∧ x = .int .i64 k ∧ Hid (∀ q, q < k → 0 ≤ la[q]?.getD 0 ∧ la[q]?.getD 0 ≤ mostOf who q) ∧ Hid (wr = w.alloc (.cells #[.int .i64 i, .int .i64 u, .slice a m c] 58))) (fun x _ => m - (intOf x).toNat)
  case atStart => exact ⟨0, Nat.zero_le _, rfl, fun q hq => absurd hq (Nat.not_lt_zero _), rfl⟩
  case round =>
    obtain ⟨k, hk, rfl, Hl, Hw⟩ := hrel
    have hw := Hw.out
    subst hw
    clear Hw
    by_cases hlt : k < m
    · obtain ⟨g, o, rfl, hg, d⟩ := HA.out.at (i := k) (by have := Hm.out; omega)
      obtain ⟨x, Hx⟩ : ∃ z, Hid (la[k]?.getD 0 = z) := ⟨_, rfl⟩
      rw [Hx.out] at d
      have k0 : (0 : Int) ≤ (k : Int) := by omega
      have k1 : (k : Int) < (m : Int) := by omega
      have Hno : Hid (¬ (0 ≤ x ∧ x ≤ mostOf who k) → b = false) := fun hn => by
        refine Hbb.out.symm.trans (mayR_no fun h => hn ?_)
        have := h.2.2.2.2.2 k (by have := Hm.out; omega)
        rwa [Hx.out] at this
      by_cases hx0 : x < 0
      · obtain rfl : b = false := Hno.out (by omega)
        go_wp2
        go_ret
        exact ⟨by rfl, below_box _ _⟩
      by_cases hx1 : 1125899906842624 < x
      · obtain rfl : b = false := Hno.out (by unfold mostOf; split <;> omega)
        go_wp2
        go_ret
        exact ⟨by rfl, below_box _ _⟩
      by_cases hkw : (k : Int) = who
      · by_cases hx2 : 0 < x
        · obtain rfl : b = false := Hno.out (by unfold mostOf; rw [if_pos hkw]; omega)
          subst hkw
          go_wp2
          go_ret
          exact ⟨by rfl, below_box _ _⟩
        · have Hy : Hid (0 ≤ x ∧ x ≤ mostOf who k) := by unfold mostOf; rw [if_pos hkw]; exact ⟨by omega, by omega⟩
          subst hkw
          go_wp2
          go_roundw
          case rel => exact ⟨k + 1, by omega, by go_num, (fun q hq => by
            by_cases e : q = k
            · subst e; rw [Hx.out]; exact Hy.out
            · exact Hl.out q (by omega)), Lib.hid trivial⟩
          case measure => simp [intOf]; omega
      · have Hy : Hid (0 ≤ x ∧ x ≤ mostOf who k) := by unfold mostOf; rw [if_neg hkw]; exact ⟨by omega, by omega⟩
        have hkw' : ((k : Int) == who) = false := by simpa using hkw
        go_wp2
        go_roundw
        case rel => exact ⟨k + 1, by omega, by go_num, (fun q hq => by
            by_cases e : q = k
            · subst e; rw [Hx.out]; exact Hy.out
            · exact Hl.out q (by omega)), Lib.hid trivial⟩
        case measure => simp [intOf]; omega
    · have hkm : k = m := by omega
      obtain rfl : b = true := Hbb.out.symm.trans ((mayR_iff _ _ _ _ _).2 ⟨by rw [← Hm.out], h1, h2, ⟨h4, h5⟩, ⟨h6, h7⟩, fun q hq => Hl.out q (by have := Hm.out; omega)⟩)
      have Hkm := Lib.hid hkm; clear hkm
      go_wp2
      go_ret
      exact ⟨by rfl, below_box _ _⟩
theorem refmay_calls (a : Option Addr) (m c : Nat) (i u n who : Int) (la : List Int) (hm : m = la.length) (w : World) (hA : Nums w (.slice a m c) la) :
    Calls Try.prog 18 #[rowV i u (.slice a m c), .int .i64 n, .int .i64 who] w (Says w (mayR i u la n who)) := by
  by_cases h : who < 0 ∨ n ≤ who ∨ (m : Int) ≠ n ∨ i < 0 ∨ 1099511627776 < i ∨ u < 0 ∨ 1099511627776 < u
  · rw [mayR_no (fun h' => by rw [← hm] at h'; omega)]
    exact refmay_no a m c i u n who w h
  · obtain rfl : (m : Int) = n := by omega
    exact refmay_loop a m c i u who la hm w hA (by omega) (by omega) (by omega) (by omega) (by omega) (by omega)
end Go.Proofs.Ytgonboccklpoaaa
