/- The document's own Same. No law is proved here. -/
import Derived.Test.YteepjeaeljkkeaaRowWorld
import Derived.Deep.QuietTactic
import Derived.BigQuiet
import Derived.LoopTactic
import Derived.WalkSmall
namespace Go.Proofs.Yteepjeaeljkkeaa
open Go.RowKit

section
variable (a : Option Addr) (n c : Nat) (b : Option Addr) (m d : Nat) (i u j v : Int) (la lb : List Int) (hn : n = la.length) (hm : m = lb.length) (w : World) (hA : Nums w (.slice a n c) la) (hB : Nums w (.slice b m d) lb)
include hn hm hA hB

set_option maxHeartbeats 1000000 in
theorem refsame_no (h : ¬ (n = m ∧ i = j ∧ u = v)) : Calls Try.prog 20 #[rowV i u (.slice a n c), rowV j v (.slice b m d)] w (Says w false) := by
  have hbig : n ≤ 9223372036854775807 := by rw [hn]; exact hA.1
  have hbig2 : m ≤ 9223372036854775807 := by rw [hm]; exact hB.1
  clear hn hm hA hB
  by_cases h1 : n = m
  · obtain rfl := h1
    by_cases h2 : i = j
    · obtain rfl := h2
      have h3 : u ≠ v := fun e => h ⟨rfl, rfl, e⟩
      have h3' : (u != v) = true := bne_iff_ne.2 h3
      clear h
      go_enter Try.func20, Try.ntmps20
      go_wp2
      go_ret
      exact ⟨rfl, below_two w _ _⟩
    · have h3' : (i != j) = true := bne_iff_ne.2 h2
      clear h
      go_enter Try.func20, Try.ntmps20
      go_wp2
      go_ret
      exact ⟨rfl, below_two w _ _⟩
  · clear h
    have h1' : ((n : Int) != (m : Int)) = true := by simp; omega
    go_enter Try.func20, Try.ntmps20
    go_wp2
    go_ret
    exact ⟨rfl, below_two w _ _⟩
end

set_option maxRecDepth 100000 in
set_option maxHeartbeats 2000000 in
theorem refsame_loop (a : Option Addr) (n c : Nat) (b : Option Addr) (d : Nat) (i u j v : Int) (la lb : List Int) (hn : n = la.length) (hm : n = lb.length) (w : World) (hA : Nums w (.slice a n c) la) (hB : Nums w (.slice b n d) lb)
    (hi : i = j) (hu : u = v) : Calls Try.prog 20 #[rowV i u (.slice a n c), rowV j v (.slice b n d)] w (Says w (sameB i u la j v lb)) := by
  have hbig : n ≤ 9223372036854775807 := by rw [hn]; exact hA.1
  subst hi hu
  obtain ⟨r, Hr⟩ : ∃ r, Hid (sameB i u la i u lb = r) := ⟨_, rfl⟩
  rw [Hr.out]
  have HA := Lib.hid hA; clear hA
  have HB := Lib.hid hB; clear hB
  have Hn := Lib.hid hn; clear hn
  have Hm := Lib.hid hm; clear hm
  have Hb0 := Lib.hid (below_two w (.cells #[.int .i64 i, .int .i64 u, .slice a n c] 39) (.cells #[.int .i64 i, .int .i64 u, .slice b n d] 39))
  have HWA := Lib.hid ((Whole.made w 39 #[.int .i64 i, .int .i64 u, .slice a n c]).alloc (.cells #[.int .i64 i, .int .i64 u, .slice b n d] 39))
  have HWB := Lib.hid (Whole.made2 w (.cells #[.int .i64 i, .int .i64 u, .slice a n c] 39) 39 #[.int .i64 i, .int .i64 u, .slice b n d])
  go_enter Try.func20, Try.ntmps20
  go_wp2
  go_loopw [5] (fun x wr => ∃ k : Nat, k ≤ n ∧ x = .int .i64 k ∧ Hid (∀ q, q < k → la[q]?.getD 0 = lb[q]?.getD 0) ∧ Hid (Below w.heap.size w wr) ∧ Hid (Whole wr w.heap.size 39 #[.int .i64 i, .int .i64 u, .slice a n c]) ∧ Hid (Whole wr (w.heap.size + 1) 39 #[.int .i64 i, .int .i64 u, .slice b n d])) (fun x _ => n - (intOf x).toNat)
  case atStart => exact ⟨0, Nat.zero_le _, rfl, fun q hq => absurd hq (Nat.not_lt_zero _), Hb0.out, HWA.out, HWB.out⟩
  case round =>
    obtain ⟨k, hk, rfl, Hl, Hb, HWa, HWb⟩ := hrel
    have a2 : wr.cell? ⟨w.heap.size, 2, none⟩ = some (.slice a n c) := HWa.out.cell 2
    have b2 : wr.cell? ⟨w.heap.size + 1, 2, none⟩ = some (.slice b n d) := HWb.out.cell 2
    by_cases hlt : k < n
    · obtain ⟨ba, oa, rfl, _, c0⟩ := HA.out.at (i := k) (by have := Hn.out; omega)
      obtain ⟨bb, ob, rfl, _, c1⟩ := HB.out.at (i := k) (by have := Hm.out; omega)
      have d0 := cell_later Hb.out c0
      have d1 := cell_later Hb.out c1
      clear c0 c1
      obtain ⟨x, Hx⟩ : ∃ x, Hid (la[k]?.getD 0 = x) := ⟨_, rfl⟩
      obtain ⟨y, Hy⟩ : ∃ y, Hid (lb[k]?.getD 0 = y) := ⟨_, rfl⟩
      rw [Hx.out] at d0
      rw [Hy.out] at d1
      have k0 : (0 : Int) ≤ (k : Int) := by omega
      have k1 : (k : Int) < (n : Int) := by omega
      by_cases hxy : x ≠ y
      · obtain rfl : r = false := by
          cases r with
          | false => rfl
          | true =>
            have := (of_decide_eq_true Hr.out).2.2
            subst this
            exact absurd (Hx.out.symm.trans Hy.out) hxy
        have hxy1 : (x != y) = true := bne_iff_ne.2 hxy
        go_wp2
        go_quiet (fail)
        go_wp2
        go_ret
        exact ⟨rfl, below_drewN Hb.out _⟩
      · obtain rfl : x = y := by omega
        clear hxy
        go_wp2
        go_quiet (fail)
        go_wp2
        go_roundw
        case rel => exact ⟨k + 1, by omega, by go_num, (fun q hq => by
            by_cases e : q = k
            · subst e; rw [Hx.out, Hy.out]
            · exact Hl.out q (by omega)), below_drewN Hb.out _, HWa.out, HWb.out⟩
        case measure => simp [intOf]; omega
    · have hkn : k = n := by omega
      have Hkn := Lib.hid hkn; clear hkn
      obtain rfl : r = true := Hr.out.symm.trans (decide_eq_true ⟨rfl, rfl, list_same (by rw [← Hn.out, ← Hm.out]) fun q hq => Hl.out q (by have := Hn.out; have := Hkn.out; omega)⟩)
      go_wp2
      go_ret
      exact ⟨rfl, Hb.out⟩
theorem refsame_calls (a : Option Addr) (n c : Nat) (b : Option Addr) (m d : Nat) (i u j v : Int) (la lb : List Int) (hn : n = la.length) (hm : m = lb.length) (w : World) (hA : Nums w (.slice a n c) la) (hB : Nums w (.slice b m d) lb) :
    Calls Try.prog 20 #[rowV i u (.slice a n c), rowV j v (.slice b m d)] w (Says w (sameB i u la j v lb)) := by
  by_cases h : n = m ∧ i = j ∧ u = v
  · obtain ⟨rfl, hi, hu⟩ := h
    exact refsame_loop a n c b d i u j v la lb hn hm w hA hB hi hu
  · rw [show sameB i u la j v lb = false from decide_eq_false fun ⟨h1, h2, h3⟩ => h ⟨by rw [hn, hm, h3], h1, h2⟩]
    exact refsame_no a n c b m d i u j v la lb hn hm w hA hB h
end Go.Proofs.Yteepjeaeljkkeaa
