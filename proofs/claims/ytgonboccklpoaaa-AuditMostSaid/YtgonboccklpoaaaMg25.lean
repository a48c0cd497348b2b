/- Merged texts: AuditAll, AuditClone. No law is proved here. -/
import Derived.Test.YtgonboccklpoaaaAuditSmall
import Derived.Test.YtgonboccklpoaaaMg14
import Derived.Test.YtgonboccklpoaaaMg21
import Derived.Test.YtgonboccklpoaaaMg4
import Derived.WalkKit
import Derived.ProofKit
import Derived.OpenShut
import Derived.WalkSpells
import Derived.Lib.Hide
import Derived.Deep.Draws
import Derived.RegionTactic
import Derived.WalkLawsBesides
import Derived.Laws.Cover3
/- Package audit, walked: did all others tell. No law is proved here. -/
namespace Go.Proofs.Ytgonboccklpoaaa
open Go.RowKit

/-- in that phase, and did all others tell? -/
def alB (who : Int) (x : Au) (ph : Int) : Bool := decide (x.ph = ph ∧ ∀ i, i < x.told.length → x.told[i]?.getD false = true ∨ (i : Int) = who)
/-- of one that may be, in the first or the second phase, all told -/
theorem alB_all {c : Cf} {who : Int} {x : Au} {ph : Int} (h : auOk c who x) (hp : ph ≠ 0) : alB who x ph = decide (x.ph = ph ∧ allA who x) := by
  unfold alB allA
  rw [decide_eq_decide]
  refine ⟨fun h2 => ⟨h2.1, ?_, h2.2⟩, fun h2 => ⟨h2.1, h2.2.2⟩⟩
  rcases h.2.2 with h3 | h3
  · exact absurd h2.1 (by rw [h3]; exact fun e => hp e.symm)
  · have h4 := h3.2.2.1
    have h5 := h.1.1
    omega
set_option maxRecDepth 100000 in
set_option maxHeartbeats 4000000 in
theorem auall_calls (who : Int) (x : Au) (p : Al) (ph : Int) (w : World) (hA : AuIn w p x) : Calls Try.prog 27 #[.int .i64 who, auAt x p, .int .i64 ph] w (Says w (alB who x ph)) := by
  have HW := Lib.hid (Whole.made w 33 (auCells x (.slice p.a1 p.m1 p.c1) (.slice p.a2 p.m2 p.c2) (.slice p.a3 p.m3 p.c3)))
  have Hb0 := Lib.hid (below_box w (.cells (auCells x (.slice p.a1 p.m1 p.c1) (.slice p.a2 p.m2 p.c2) (.slice p.a3 p.m3 p.c3)) 33))
  have hbig : p.m1 ≤ 9223372036854775807 := by rw [hA.1.1]; exact hA.1.2.1
  have HB := Lib.hid hA.1.2
  have Hm := Lib.hid hA.1.1
  clear hA
  obtain ⟨a1, m1, c1, a2, m2, c2, a3, m3, c3⟩ := p
  obtain ⟨tr, ph0, told, use, inc, moved⟩ := x
  simp only at hbig
  obtain ⟨res, Hres⟩ : ∃ z, Hid (alB who ⟨tr, ph0, told, use, inc, moved⟩ ph = z) := ⟨_, rfl⟩
  have no : ¬ (ph0 = ph ∧ ∀ i, i < told.length → told[i]?.getD false = true ∨ (i : Int) = who) → res = false := fun h => Hres.out.symm.trans (decide_eq_false h)
  have No := Lib.hid no; clear no
  rw [Hres.out]
  obtain ⟨e0, e1, e2, e3, e4, e5⟩ := au_cells HW.out
  simp only at e0 e1 e2 e3 e4 e5
  go_enter Try.func27, Try.ntmps27
  by_cases h1 : ph0 = ph
  rotate_left 1
  · have h1' : (ph0 != ph) = true := bne_iff_ne.2 h1
    obtain rfl : res = false := No.out fun h => h1 h.1
    clear h1
    go_wp2_with fail
    go_ret
    exact ⟨by rfl, Hb0.out⟩
  subst h1
  have h1' : (ph0 != ph0) = false := by simp
  go_wp2_with fail
  clear e0 e1 e2 e3 e4 e5 HW h1'
  go_loopw [17] (fun s wr => ∃ k : Nat, k ≤ m1 ∧ s = .int .i64 k ∧ Hid (∀ i : Nat, i < k → told[i]?.getD false = true ∨ (i : Int) = who) ∧ Hid (Below w.heap.size w wr)) (fun s _ => m1 - (intOf s).toNat)
  case atStart => exact ⟨0, Nat.zero_le _, rfl, fun z hz => absurd hz (Nat.not_lt_zero _), Hb0.out⟩
  case round =>
    obtain ⟨k, hk, rfl, Hl, Hb⟩ := hrel
    by_cases hlt : k < m1
    · obtain ⟨b, off, rfl, u0⟩ := (HB.out.later Hb.out).at (i := k) (by have := Hm.out; omega)
      obtain ⟨y, Hy⟩ : ∃ z, Hid (told[k]?.getD false = z) := ⟨_, rfl⟩
      rw [Hy.out] at u0
      have k0 : (0 : Int) ≤ (k : Int) := by omega
      have k1 : (k : Int) < (m1 : Int) := by omega
      by_cases hkw : (k : Int) = who
      · have hkw' : ((k : Int) != who) = false := by simp [hkw]
        have Hkw := Lib.hid hkw
        clear hkw
        go_wp2_with fail
        go_roundw
        case rel => exact ⟨k + 1, by omega, by go_num, (fun z hz => by
          by_cases e : z = k
          · subst e; exact Or.inr Hkw.out
          · exact Hl.out z (by omega)), Hb.out⟩
        case measure => simp [intOf]; omega
      · have hkw' : ((k : Int) != who) = true := bne_iff_ne.2 hkw
        have Hkw := Lib.hid hkw
        clear hkw
        cases y with
        | false =>
          obtain rfl : res = false := No.out fun h => by
            rcases h.2 k (by have := Hm.out; omega) with h9 | h9
            · rw [Hy.out] at h9; cases h9
            · exact Hkw.out h9
          go_wp2_with fail
          go_ret
          exact ⟨by rfl, Hb.out⟩
        | true =>
          go_wp2_with fail
          go_roundw
          case rel => exact ⟨k + 1, by omega, by go_num, (fun z hz => by
            by_cases e : z = k
            · subst e; exact Or.inl Hy.out
            · exact Hl.out z (by omega)), Hb.out⟩
          case measure => simp [intOf]; omega
    · obtain rfl : res = true := Hres.out.symm.trans (decide_eq_true ⟨rfl, fun i hi => Hl.out i (by have := Hm.out; have hi2 : i < told.length := hi; omega)⟩)
      go_wp2_with fail
      go_ret
      exact ⟨by rfl, Hb.out⟩
end Go.Proofs.Ytgonboccklpoaaa

/- slices.Clone at []int64 and at []bool, nil, empty and not. No law is proved here. -/
namespace Go.Proofs.Ytgonboccklpoaaa
open Go.RowKit

attribute [local go_sem ↓] run_fine
/-- numbers of the call's own -/
def ClonedN (w : World) (l : List Int) (e : Ending) (w' : World) : Prop := ∃ A C, e = .returned (.slice A l.length C) ∧ OwnN w' w.heap.size (.slice A l.length C) l ∧ Below w.heap.size w w'
def ClonedT (w : World) (l : List Bool) (e : Ending) (w' : World) : Prop := ∃ A C, e = .returned (.slice A l.length C) ∧ OwnT w' w.heap.size (.slice A l.length C) l ∧ Below w.heap.size w w'
theorem elems_none {w : World} {n C sz m : Nat} {f : Nat → Nat → Value} (h : Elems w (.slice none n C) sz m f) : n = 0 ∧ C = 0 ∧ m = 0 := by
  obtain ⟨_, ⟨a, cap, hv, ha, h0⟩ | ⟨b, off, cap, hv, _⟩⟩ := h
  · simp only [Value.slice.injEq] at hv
    obtain ⟨rfl, rfl, rfl⟩ := hv
    exact ⟨rfl, ha rfl, h0⟩
  · simp at hv
set_option maxRecDepth 100000 in
set_option maxHeartbeats 4000000 in
theorem cloneN_calls (A : Option Addr) (n C : Nat) (la : List Int) (hn : n = la.length) (hle : n ≤ 100000) (w : World) (hN : Nums w (.slice A n C) la) : Calls Try.prog 36 #[.slice A n C] w (ClonedN w la) := by
  cases A with
  | none =>
    obtain ⟨rfl, rfl, h0⟩ := elems_none hN
    obtain rfl : la = [] := List.length_eq_zero_iff.1 h0
    clear hN hn hle h0
    go_enter Try.func36, Try.ntmps36
    have heq : ∀ w : World, (binOp .eql 31 (.slice none 0 0) (.slice none 0 0)).run Try.prog w = .ok (.bool true) w := by
      intro w
      simp only [binOp]
      simp [run_equal_slice_nil w 31 2 none 0 0 Try.underlying31]
    go_wp2
    go_ret
    exact ⟨none, 0, by rfl, ⟨rfl, Or.inl ⟨rfl, rfl⟩⟩, Below.refl _ _⟩
  | some ad =>
    have hb1 : Below w.heap.size w (w.alloc (.cells #[] 2)) := below_box w _
    obtain ⟨v1, w1, hrun1, q1, q2, _⟩ := run_append_nums (ownN_nil w) (hN.later hb1) hn (by simp; omega) hb1.size
    rw [List.nil_append] at q1
    obtain ⟨A1, C1, rfl, _⟩ := OwnN.nums q1 (by omega)
    obtain ⟨hf1, hv1, hw1⟩ := fine_of hrun1
    have Q1 := Lib.hid q1
    have Hb := Lib.hid (hb1.trans q2)
    clear hrun1 q1 q2 hb1 hN hn
    go_enter Try.func36, Try.ntmps36
    have heq : ∀ w : World, (binOp .eql 31 (.slice (some ad) n C) (.slice none 0 0)).run Try.prog w = .ok (.bool false) w := by
      intro w
      simp only [binOp]
      simp [run_equal_slice_nil w 31 2 (some ad) n C Try.underlying31]
    go_wp2
    go_ret
    exact ⟨A1, C1, by rfl, Q1.out, Hb.out⟩
set_option maxRecDepth 100000 in
set_option maxHeartbeats 4000000 in
theorem cloneT_calls (A : Option Addr) (n C : Nat) (la : List Bool) (hn : n = la.length) (hle : n ≤ 100000) (w : World) (hN : Bools w (.slice A n C) la) : Calls Try.prog 35 #[.slice A n C] w (ClonedT w la) := by
  cases A with
  | none =>
    obtain ⟨rfl, rfl, h0⟩ := elems_none hN
    obtain rfl : la = [] := List.length_eq_zero_iff.1 h0
    clear hN hn hle h0
    go_enter Try.func35, Try.ntmps35
    have heq : ∀ w : World, (binOp .eql 30 (.slice none 0 0) (.slice none 0 0)).run Try.prog w = .ok (.bool true) w := by
      intro w
      simp only [binOp]
      simp [run_equal_slice_nil w 30 4 none 0 0 Try.underlying30]
    go_wp2
    go_ret
    exact ⟨none, 0, by rfl, ⟨rfl, Or.inl ⟨rfl, rfl⟩⟩, Below.refl _ _⟩
  | some ad =>
    have hb1 : Below w.heap.size w (w.alloc (.cells #[] 4)) := below_box w _
    obtain ⟨v1, w1, hrun1, q1, q2, _⟩ := run_append_bools (ownT_nil w) (hN.later hb1) hn (by omega) hb1.size
    obtain ⟨A1, C1, rfl, _⟩ := OwnT.bools q1 (by omega)
    obtain ⟨hf1, hv1, hw1⟩ := fine_of hrun1
    have Q1 := Lib.hid q1
    have Hb := Lib.hid (hb1.trans q2)
    clear hrun1 q1 q2 hb1 hN hn
    go_enter Try.func35, Try.ntmps35
    have heq : ∀ w : World, (binOp .eql 30 (.slice (some ad) n C) (.slice none 0 0)).run Try.prog w = .ok (.bool false) w := by
      intro w
      simp only [binOp]
      simp [run_equal_slice_nil w 30 4 (some ad) n C Try.underlying30]
    go_wp2
    go_ret
    exact ⟨A1, C1, by rfl, Q1.out, Hb.out⟩
end Go.Proofs.Ytgonboccklpoaaa
