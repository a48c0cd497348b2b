/- Same, and the document's own Behind and Same. No law is proved here. -/
import Derived.Test.YtbghdanagahbnaaRowBehind
import Derived.Deep.QuietTactic
import Derived.BigQuiet
import Derived.LoopTactic
import Derived.WalkSmall
namespace Go.Proofs.Ytbghdanagahbnaa
open Go.RowKit

/-- two rows are alike -/
def sameB (i u : Int) (la : List Int) (j v : Int) (lb : List Int) : Bool := decide (i = j ∧ u = v ∧ la = lb)

theorem zip_getElem {la lb : List Int} (h : la.length = lb.length) (k : Nat) (hk : k < la.length) : (la.zip lb)[k]'(by rw [List.length_zip]; omega) = (la[k], lb[k]'(by omega)) := by simp
theorem leAll_at {la lb : List Int} (h : la.length = lb.length) (hl : leAll (la.zip lb) = true) (k : Nat) (hk : k < la.length) : la[k]?.getD 0 ≤ lb[k]?.getD 0 := by
  unfold leAll at hl
  rw [List.all_eq_true] at hl
  have := hl ((la.zip lb)[k]'(by rw [List.length_zip]; omega)) (List.getElem_mem _)
  rw [zip_getElem h k hk] at this
  rw [List.getElem?_eq_getElem hk, List.getElem?_eq_getElem (show k < lb.length by omega)]
  exact of_decide_eq_true this
theorem leAll_of {la lb : List Int} (h : la.length = lb.length) (hl : ∀ k, k < la.length → la[k]?.getD 0 ≤ lb[k]?.getD 0) : leAll (la.zip lb) = true := by
  apply leAll_yes
  intro x hx
  obtain ⟨k, hk, rfl⟩ := List.getElem_of_mem hx
  rw [List.length_zip] at hk
  rw [zip_getElem h k (by omega)]
  have := hl k (by omega)
  rw [List.getElem?_eq_getElem (show k < la.length by omega), List.getElem?_eq_getElem (show k < lb.length by omega)] at this
  exact this
theorem behindB_iff {i u j v : Int} {la lb : List Int} : behindB i u la j v lb = true ↔ la.length = lb.length ∧ i ≤ j ∧ u ≤ v ∧ ∀ k, k < la.length → la[k]?.getD 0 ≤ lb[k]?.getD 0 := by
  constructor
  · intro h
    unfold behindB at h
    rw [Bool.and_eq_true, decide_eq_true_eq] at h
    obtain ⟨⟨h1, h2, h3⟩, h4⟩ := h
    exact ⟨h1, h2, h3, leAll_at h1 h4⟩
  · rintro ⟨h1, h2, h3, h4⟩
    rw [behindB_all ⟨h1, h2, h3⟩]
    exact leAll_of h1 h4
theorem list_same {la lb : List Int} (h : la.length = lb.length) (hk : ∀ k, k < la.length → la[k]?.getD 0 = lb[k]?.getD 0) : la = lb := by
  apply List.ext_getElem h
  intro k h1 h2
  have := hk k h1
  rwa [List.getElem?_eq_getElem h1, List.getElem?_eq_getElem h2] at this
theorem same_both (i u : Int) (la : List Int) (j v : Int) (lb : List Int) : (behindB i u la j v lb && behindB j v lb i u la) = sameB i u la j v lb := by
  rw [Bool.eq_iff_iff, Bool.and_eq_true, behindB_iff, behindB_iff]
  unfold sameB
  rw [decide_eq_true_eq]
  constructor
  · rintro ⟨⟨h1, h2, h3, h4⟩, h5, h6, h7, h8⟩
    exact ⟨by omega, by omega, list_same h1 fun k hk => by have := h4 k hk; have := h8 k (by omega); omega⟩
  · rintro ⟨rfl, rfl, rfl⟩
    exact ⟨⟨rfl, Int.le_refl _, Int.le_refl _, fun k _ => Int.le_refl _⟩, rfl, Int.le_refl _, Int.le_refl _, fun k _ => Int.le_refl _⟩

/-- a row that came in, in a box of the call's own -/
theorem row_cells {wr : World} {g : Nat} {i u : Int} {v : Value} (h : Whole wr g 24 #[.int .i64 i, .int .i64 u, v]) :
    wr.cell? ⟨g, 0, none⟩ = some (.int .i64 i) ∧ wr.cell? ⟨g, 1, none⟩ = some (.int .i64 u) ∧ wr.cell? ⟨g, 2, none⟩ = some v := ⟨h.cell 0, h.cell 1, h.cell 2⟩

set_option maxRecDepth 100000 in
set_option maxHeartbeats 1000000 in
theorem same_calls (a : Option Addr) (n c : Nat) (b : Option Addr) (m d : Nat) (i u j v : Int) (la lb : List Int) (hn : n = la.length) (hm : m = lb.length) (w : World) (hA : Nums w (.slice a n c) la) (hB : Nums w (.slice b m d) lb) :
    Calls Try.prog 12 #[rowV i u (.slice a n c), rowV j v (.slice b m d)] w (Says w (sameB i u la j v lb)) := by
  have hs := same_both i u la j v lb
  obtain ⟨x, Hx⟩ : ∃ x, Hid (behindB i u la j v lb = x) := ⟨_, rfl⟩
  obtain ⟨y, Hy⟩ : ∃ y, Hid (behindB j v lb i u la = y) := ⟨_, rfl⟩
  rw [Hx.out, Hy.out] at hs
  rw [← hs]
  clear hs
  have HA := Lib.hid hA; clear hA
  have HB := Lib.hid hB; clear hB
  have Hn := Lib.hid hn; clear hn
  have Hm := Lib.hid hm; clear hm
  have Hb0 := Lib.hid (below_two w (.cells #[.int .i64 i, .int .i64 u, .slice a n c] 24) (.cells #[.int .i64 j, .int .i64 v, .slice b m d] 24))
  have HWA := Lib.hid ((Whole.made w 24 #[.int .i64 i, .int .i64 u, .slice a n c]).alloc (.cells #[.int .i64 j, .int .i64 v, .slice b m d] 24))
  have HWB := Lib.hid (Whole.made2 w (.cells #[.int .i64 i, .int .i64 u, .slice a n c] 24) 24 #[.int .i64 j, .int .i64 v, .slice b m d])
  go_enter Try.func12, Try.ntmps12
  go_wp2_with fail
  refine (behind_calls a n c b m d i u j v la lb Hn.out Hm.out _ (HA.out.later Hb0.out) (HB.out.later Hb0.out)).mono ?_
  rintro e w1 ⟨rfl, hb⟩
  rw [Hx.out]
  have Hb1 := Lib.hid (held_next Hb0.out hb)
  obtain ⟨a0, a1, a2⟩ := row_cells (HWA.out.later hb HWA.out.lt)
  obtain ⟨b0, b1, b2⟩ := row_cells (HWB.out.later hb HWB.out.lt)
  clear hb
  cases x with
  | false =>
    go_wp2_with fail
    go_ret
    exact ⟨rfl, Hb1.out⟩
  | true =>
    go_wp2_with fail
    refine (behind_calls b m d a n c j v i u lb la Hm.out Hn.out _ (HB.out.later Hb1.out) (HA.out.later Hb1.out)).mono ?_
    rintro e w2 ⟨rfl, hb⟩
    rw [Hy.out]
    have Hb2 := Lib.hid (held_next Hb1.out hb); clear hb
    go_wp2_with fail
    go_ret
    exact ⟨by simp, Hb2.out⟩

section
variable (a : Option Addr) (n c : Nat) (b : Option Addr) (m d : Nat) (i u j v : Int) (la lb : List Int) (hn : n = la.length) (hm : m = lb.length) (w : World) (hA : Nums w (.slice a n c) la) (hB : Nums w (.slice b m d) lb)
include hn hm hA hB

set_option maxHeartbeats 1000000 in
theorem refbehind_no (h : ¬ (n = m ∧ i ≤ j ∧ u ≤ v)) : Calls Try.prog 11 #[rowV i u (.slice a n c), rowV j v (.slice b m d)] w (Says w false) := by
  have hbig : n ≤ 9223372036854775807 := by rw [hn]; exact hA.1
  have hbig2 : m ≤ 9223372036854775807 := by rw [hm]; exact hB.1
  clear hn hm hA hB
  by_cases h1 : n = m
  · obtain rfl := h1
    by_cases h2 : j < i
    · clear h
      go_enter Try.func11, Try.ntmps11
      go_wp2
      go_ret
      exact ⟨rfl, below_two w _ _⟩
    · have h3 : v < u := by omega
      clear h
      go_enter Try.func11, Try.ntmps11
      go_wp2
      go_ret
      exact ⟨rfl, below_two w _ _⟩
  · clear h
    have h1' : ((n : Int) != (m : Int)) = true := by simp; omega
    go_enter Try.func11, Try.ntmps11
    go_wp2
    go_ret
    exact ⟨rfl, below_two w _ _⟩

set_option maxHeartbeats 1000000 in
theorem refsame_no (h : ¬ (n = m ∧ i = j ∧ u = v)) : Calls Try.prog 9 #[rowV i u (.slice a n c), rowV j v (.slice b m d)] w (Says w false) := by
  have hbig : n ≤ 9223372036854775807 := by rw [hn]; exact hA.1
  have hbig2 : m ≤ 9223372036854775807 := by rw [hm]; exact hB.1
  clear hn hm hA hB
  by_cases h1 : n = m
  · obtain rfl := h1
    by_cases h2 : i = j
    · obtain rfl := h2
      have h3 : u ≠ v := fun e => h ⟨rfl, rfl, e⟩
      have h3' : (u != v) = true := bne_iff_ne.2 h3
      clear h
      go_enter Try.func9, Try.ntmps9
      go_wp2
      go_ret
      exact ⟨rfl, below_two w _ _⟩
    · have h3' : (i != j) = true := bne_iff_ne.2 h2
      clear h
      go_enter Try.func9, Try.ntmps9
      go_wp2
      go_ret
      exact ⟨rfl, below_two w _ _⟩
  · clear h
    have h1' : ((n : Int) != (m : Int)) = true := by simp; omega
    go_enter Try.func9, Try.ntmps9
    go_wp2
    go_ret
    exact ⟨rfl, below_two w _ _⟩
end

set_option maxRecDepth 100000 in
set_option maxHeartbeats 2000000 in
theorem refbehind_loop (a : Option Addr) (n c : Nat) (b : Option Addr) (d : Nat) (i u j v : Int) (la lb : List Int) (hn : n = la.length) (hm : n = lb.length) (w : World) (hA : Nums w (.slice a n c) la) (hB : Nums w (.slice b n d) lb)
    (hi : i ≤ j) (hu : u ≤ v) : Calls Try.prog 11 #[rowV i u (.slice a n c), rowV j v (.slice b n d)] w (Says w (behindB i u la j v lb)) := by
  have hbig : n ≤ 9223372036854775807 := by rw [hn]; exact hA.1
  obtain ⟨r, Hr⟩ : ∃ r, Hid (behindB i u la j v lb = r) := ⟨_, rfl⟩
  rw [Hr.out]
  have HA := Lib.hid hA; clear hA
  have HB := Lib.hid hB; clear hB
  have Hn := Lib.hid hn; clear hn
  have Hm := Lib.hid hm; clear hm
  have Hb0 := Lib.hid (below_two w (.cells #[.int .i64 i, .int .i64 u, .slice a n c] 24) (.cells #[.int .i64 j, .int .i64 v, .slice b n d] 24))
  have HWA := Lib.hid ((Whole.made w 24 #[.int .i64 i, .int .i64 u, .slice a n c]).alloc (.cells #[.int .i64 j, .int .i64 v, .slice b n d] 24))
  have HWB := Lib.hid (Whole.made2 w (.cells #[.int .i64 i, .int .i64 u, .slice a n c] 24) 24 #[.int .i64 j, .int .i64 v, .slice b n d])
  go_enter Try.func11, Try.ntmps11
  go_wp2
  go_loopw [5] (fun x wr => ∃ k : Nat, k ≤ n ∧ x = .int .i64 k ∧ Hid (∀ q, q < k → la[q]?.getD 0 ≤ lb[q]?.getD 0) ∧ Hid (Below w.heap.size w wr) ∧ Hid (Whole wr w.heap.size 24 #[.int .i64 i, .int .i64 u, .slice a n c]) ∧ Hid (Whole wr (w.heap.size + 1) 24 #[.int .i64 j, .int .i64 v, .slice b n d])) (fun x _ => n - (intOf x).toNat)
  case atStart => exact ⟨0, Nat.zero_le _, rfl, fun q hq => absurd hq (Nat.not_lt_zero _), Hb0.out, HWA.out, HWB.out⟩
  case round =>
    obtain ⟨k, hk, rfl, Hl, Hb, HWa, HWb⟩ := hrel
    have a2 : wr.cell? ⟨w.heap.size, 2, none⟩ = some (.slice a n c) := HWa.out.cell 2
    have b2 : wr.cell? ⟨w.heap.size + 1, 2, none⟩ = some (.slice b n d) := HWb.out.cell 2
    by_cases hlt : k < n
    · obtain ⟨ba, oa, rfl, _, c0⟩ := HA.out.at (i := k) (by have := Hn.out; omega)
      obtain ⟨bb, ob, rfl, _, c1⟩ := HB.out.at (i := k) (by have := Hm.out; omega)
      have d0 := cell_later Hb.out c0
      have d1 := cell_later Hb.out c1
      clear c0 c1
      obtain ⟨x, Hx⟩ : ∃ x, Hid (la[k]?.getD 0 = x) := ⟨_, rfl⟩
      obtain ⟨y, Hy⟩ : ∃ y, Hid (lb[k]?.getD 0 = y) := ⟨_, rfl⟩
      rw [Hx.out] at d0
      rw [Hy.out] at d1
      have k0 : (0 : Int) ≤ (k : Int) := by omega
      have k1 : (k : Int) < (n : Int) := by omega
      by_cases hxy : y < x
      · obtain rfl : r = false := by
          cases r with
          | false => rfl
          | true =>
            have := (behindB_iff.1 Hr.out).2.2.2 k (by have := Hn.out; omega)
            rw [Hx.out, Hy.out] at this
            omega
        go_wp2
        go_quiet (fail)
        go_wp2
        go_ret
        exact ⟨rfl, below_drewN Hb.out _⟩
      · have hxy' : x ≤ y := by omega
        go_wp2
        go_quiet (fail)
        go_wp2
        go_roundw
        case rel => exact ⟨k + 1, by omega, by go_num, (fun q hq => by
            by_cases e : q = k
            · subst e; rw [Hx.out, Hy.out]; exact hxy'
            · exact Hl.out q (by omega)), below_drewN Hb.out _, HWa.out, HWb.out⟩
        case measure => simp [intOf]; omega
    · have hkn : k = n := by omega
      have Hkn := Lib.hid hkn; clear hkn
      obtain rfl : r = true := Hr.out.symm.trans (behindB_iff.2 ⟨by rw [← Hn.out, ← Hm.out], hi, hu, fun q hq => Hl.out q (by have := Hn.out; have := Hkn.out; omega)⟩)
      go_wp2
      go_ret
      exact ⟨rfl, Hb.out⟩

set_option maxRecDepth 100000 in
set_option maxHeartbeats 2000000 in
theorem refsame_loop (a : Option Addr) (n c : Nat) (b : Option Addr) (d : Nat) (i u j v : Int) (la lb : List Int) (hn : n = la.length) (hm : n = lb.length) (w : World) (hA : Nums w (.slice a n c) la) (hB : Nums w (.slice b n d) lb)
    (hi : i = j) (hu : u = v) : Calls Try.prog 9 #[rowV i u (.slice a n c), rowV j v (.slice b n d)] w (Says w (sameB i u la j v lb)) := by
  have hbig : n ≤ 9223372036854775807 := by rw [hn]; exact hA.1
  subst hi hu
  obtain ⟨r, Hr⟩ : ∃ r, Hid (sameB i u la i u lb = r) := ⟨_, rfl⟩
  rw [Hr.out]
  have HA := Lib.hid hA; clear hA
  have HB := Lib.hid hB; clear hB
  have Hn := Lib.hid hn; clear hn
  have Hm := Lib.hid hm; clear hm
  have Hb0 := Lib.hid (below_two w (.cells #[.int .i64 i, .int .i64 u, .slice a n c] 24) (.cells #[.int .i64 i, .int .i64 u, .slice b n d] 24))
  have HWA := Lib.hid ((Whole.made w 24 #[.int .i64 i, .int .i64 u, .slice a n c]).alloc (.cells #[.int .i64 i, .int .i64 u, .slice b n d] 24))
  have HWB := Lib.hid (Whole.made2 w (.cells #[.int .i64 i, .int .i64 u, .slice a n c] 24) 24 #[.int .i64 i, .int .i64 u, .slice b n d])
  go_enter Try.func9, Try.ntmps9
  go_wp2
  go_loopw [5] (fun x wr => ∃ k : Nat, k ≤ n ∧ x = .int .i64 k ∧ Hid (∀ q, q < k → la[q]?.getD 0 = lb[q]?.getD 0) ∧ Hid (Below w.heap.size w wr) ∧ Hid (Whole wr w.heap.size 24 #[.int .i64 i, .int .i64 u, .slice a n c]) ∧ Hid (Whole wr (w.heap.size + 1) 24 #[.int .i64 i, .int .i64 u, .slice b n d])) (fun x _ => n - (intOf x).toNat)
  case atStart => exact ⟨0, Nat.zero_le _, rfl, fun q hq => absurd hq (Nat.not_lt_zero _), Hb0.out, HWA.out, HWB.out⟩
  case round =>
    obtain ⟨k, hk, rfl, Hl, Hb, HWa, HWb⟩ := hrel
    have a2 : wr.cell? ⟨w.heap.size, 2, none⟩ = some (.slice a n c) := HWa.out.cell 2
    have b2 : wr.cell? ⟨w.heap.size + 1, 2, none⟩ = some (.slice b n d) := HWb.out.cell 2
    by_cases hlt : k < n
    · obtain ⟨ba, oa, rfl, _, c0⟩ := HA.out.at (i := k) (by have := Hn.out; omega)
      obtain ⟨bb, ob, rfl, _, c1⟩ := HB.out.at (i := k) (by have := Hm.out; omega)
      have d0 := cell_later Hb.out c0
      have d1 := cell_later Hb.out c1
      clear c0 c1
      obtain ⟨x, Hx⟩ : ∃ x, Hid (la[k]?.getD 0 = x) := ⟨_, rfl⟩
      obtain ⟨y, Hy⟩ : ∃ y, Hid (lb[k]?.getD 0 = y) := ⟨_, rfl⟩
      rw [Hx.out] at d0
      rw [Hy.out] at d1
      have k0 : (0 : Int) ≤ (k : Int) := by omega
      have k1 : (k : Int) < (n : Int) := by omega
      by_cases hxy : x ≠ y
      · obtain rfl : r = false := by
          cases r with
          | false => rfl
          | true =>
            have := (of_decide_eq_true Hr.out).2.2
            subst this
            exact absurd (Hx.out.symm.trans Hy.out) hxy
        have hxy1 : (x != y) = true := bne_iff_ne.2 hxy
        go_wp2
        go_quiet (fail)
        go_wp2
        go_ret
        exact ⟨rfl, below_drewN Hb.out _⟩
      · obtain rfl : x = y := by omega
        clear hxy
        go_wp2
        go_quiet (fail)
        go_wp2
        go_roundw
        case rel => exact ⟨k + 1, by omega, by go_num, (fun q hq => by
            by_cases e : q = k
            · subst e; rw [Hx.out, Hy.out]
            · exact Hl.out q (by omega)), below_drewN Hb.out _, HWa.out, HWb.out⟩
        case measure => simp [intOf]; omega
    · have hkn : k = n := by omega
      have Hkn := Lib.hid hkn; clear hkn
      obtain rfl : r = true := Hr.out.symm.trans (decide_eq_true ⟨rfl, rfl, list_same (by rw [← Hn.out, ← Hm.out]) fun q hq => Hl.out q (by have := Hn.out; have := Hkn.out; omega)⟩)
      go_wp2
      go_ret
      exact ⟨rfl, Hb.out⟩

theorem refbehind_calls (a : Option Addr) (n c : Nat) (b : Option Addr) (m d : Nat) (i u j v : Int) (la lb : List Int) (hn : n = la.length) (hm : m = lb.length) (w : World) (hA : Nums w (.slice a n c) la) (hB : Nums w (.slice b m d) lb) :
    Calls Try.prog 11 #[rowV i u (.slice a n c), rowV j v (.slice b m d)] w (Says w (behindB i u la j v lb)) := by
  by_cases h : n = m ∧ i ≤ j ∧ u ≤ v
  · obtain ⟨rfl, hi, hu⟩ := h
    exact refbehind_loop a n c b d i u j v la lb hn hm w hA hB hi hu
  · rw [behindB_no (by rw [← hn, ← hm]; exact h)]
    exact refbehind_no a n c b m d i u j v la lb hn hm w hA hB h
theorem refsame_calls (a : Option Addr) (n c : Nat) (b : Option Addr) (m d : Nat) (i u j v : Int) (la lb : List Int) (hn : n = la.length) (hm : m = lb.length) (w : World) (hA : Nums w (.slice a n c) la) (hB : Nums w (.slice b m d) lb) :
    Calls Try.prog 9 #[rowV i u (.slice a n c), rowV j v (.slice b m d)] w (Says w (sameB i u la j v lb)) := by
  by_cases h : n = m ∧ i = j ∧ u = v
  · obtain ⟨rfl, hi, hu⟩ := h
    exact refsame_loop a n c b d i u j v la lb hn hm w hA hB hi hu
  · rw [show sameB i u la j v lb = false from decide_eq_false fun ⟨h1, h2, h3⟩ => h ⟨by rw [hn, hm, h3], h1, h2⟩]
    exact refsame_no a n c b m d i u j v la lb hn hm w hA hB h
end Go.Proofs.Ytbghdanagahbnaa
