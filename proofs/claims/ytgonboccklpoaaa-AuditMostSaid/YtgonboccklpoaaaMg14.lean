/- Merged texts: AuditMath, AuditBox, RefAuditNone, RefRightsMay. No law is proved here. -/
import Derived.Test.YtgonboccklpoaaaAuditWords
import Derived.Test.YtgonboccklpoaaaMg13
import Derived.WalkKit
import Derived.ProofKit
import Derived.OpenShut
import Derived.WalkSpells
import Derived.Lib.Hide
import Derived.Deep.Draws
import Derived.Deep.Slices
import Derived.Deep.Fields
import Derived.ChangeSame
import Derived.RegionTactic
import Derived.WalkLawsBesides
import Derived.LoopTactic
import Derived.IntWalk
import Derived.Deep.DeepCutAuto
import Derived.Test.YtgonboccklpoaaaMg1
import Derived.Laws.AppendOwn
import Derived.Laws.AppendOwnNone
import Derived.Laws.OwnMore
import Derived.Maps.AppendAt
import Derived.Lib.SmallJoins
/- Layer 15's mathematics: an audit alone goes on, and ends, at once, with the value of the books. No program in it; no law is proved here. -/
namespace Go.Proofs.Ytgonboccklpoaaa

theorem begin_no {c : Cf} {who tr : Int} (h : ¬ (cfOk c ∧ (0 ≤ who ∧ who < c.n) ∧ (1 ≤ tr ∧ tr ≤ 1125899906842624))) : beginA c who tr = (au0, 1) := if_neg h
theorem begin_yes {c : Cf} {who tr : Int} (h : cfOk c ∧ (0 ≤ who ∧ who < c.n) ∧ (1 ≤ tr ∧ tr ≤ 1125899906842624)) :
    beginA c who tr = (⟨tr, 1, List.replicate c.n.toNat false, List.replicate c.n.toNat 0, List.replicate c.n.toNat 0, false⟩, 0) := if_pos h
theorem rep_at {α : Type} (n i : Nat) (x : α) : (List.replicate n x)[i]?.getD x = x := by
  rw [List.getElem?_replicate]
  split <;> rfl
/-- what begins may be -/
theorem begin_ok {c : Cf} {who tr : Int} (h : cfOk c ∧ (0 ≤ who ∧ who < c.n) ∧ (1 ≤ tr ∧ tr ≤ 1125899906842624)) :
    auOk c who ⟨tr, 1, List.replicate c.n.toNat false, List.replicate c.n.toNat 0, List.replicate c.n.toNat 0, false⟩ := by
  have hn := h.1.1
  refine ⟨h.1, h.2.1, Or.inr ⟨⟨show 0 < tr by omega, h.2.2.2⟩, Or.inl rfl, ?_, ?_, ?_, rep_at _ _ _, fun i _ => ?_⟩⟩
  · show ((List.replicate c.n.toNat false).length : Int) = c.n; rw [List.length_replicate]; omega
  · show ((List.replicate c.n.toNat (0 : Int)).length : Int) = c.n; rw [List.length_replicate]; omega
  · show ((List.replicate c.n.toNat (0 : Int)).length : Int) = c.n; rw [List.length_replicate]; omega
  · show (0 ≤ (List.replicate c.n.toNat (0 : Int))[i]?.getD 0 ∧ (List.replicate c.n.toNat (0 : Int))[i]?.getD 0 ≤ 1099511627776) ∧ _
    rw [rep_at]
    exact ⟨⟨by decide, by decide⟩, by decide, by decide⟩
/-- an audit that runs, in the second phase, alone: the numbers of the one row -/
theorem alone_ok {c : Cf} {tr x : Int} (h : cfOk c) (h1 : c.n = 1) (ht : 1 ≤ tr ∧ tr ≤ 1125899906842624) (hx : 0 ≤ x ∧ x ≤ 1099511627776) : auOk c 0 ⟨tr, 2, [false], [x], [0], false⟩ := by
  refine ⟨h, ⟨by omega, by omega⟩, Or.inr ⟨⟨show 0 < tr by omega, ht.2⟩, Or.inr rfl, by rw [h1]; rfl, by rw [h1]; rfl, by rw [h1]; rfl, rfl, fun i hi => ?_⟩⟩
  have hi : i < 1 := hi
  obtain rfl : i = 0 := by omega
  exact ⟨hx, by show (0 : Int) ≤ 0 ∧ (0 : Int) ≤ _; omega⟩
theorem alone {c : Cf} {l : List Rw} {tr : Int} (hr : rightOk c l) (h1 : c.n = 1) (ht : 1 ≤ tr ∧ tr ≤ 1125899906842624) :
    ∃ x : Int, beginA c 0 tr = (⟨tr, 1, [false], [0], [0], false⟩, 0) ∧ nextA c 0 ⟨tr, 1, [false], [0], [0], false⟩ l = (⟨tr, 2, [false], [x], [0], false⟩, true) ∧
      endsA c 0 ⟨tr, 2, [false], [x], [0], false⟩ l = (valueV c l, true, true) ∧ nextA c 0 ⟨tr, 2, [false], [x], [0], false⟩ l = (⟨tr, 2, [false], [x], [0], false⟩, false) := by
  have hl : l.length = 1 := by have := hr.2.1; omega
  have hn : c.n.toNat = 1 := by omega
  have hb : cfOk c ∧ ((0 : Int) ≤ 0 ∧ (0 : Int) < c.n) ∧ (1 ≤ tr ∧ tr ≤ 1125899906842624) := ⟨hr.1, ⟨by omega, by omega⟩, ht⟩
  have hbo := begin_ok hb
  rw [hn] at hbo
  have hu := (hr.fits 0 (by omega)).2.2.2
  have hu' : 0 ≤ (at_ l 0).use ∧ (at_ l 0).use ≤ 1099511627776 := ⟨hu.1, hu.2.1⟩
  have hok2 := alone_ok hr.1 h1 ht hu'
  have hall : ∀ b : Bool, ∀ ph x, allA 0 ⟨tr, ph, [b], [x], [0], false⟩ := fun b ph x => ⟨Nat.zero_lt_one, fun i hi => by
    have hi : i < 1 := hi
    exact Or.inr (by omega)⟩
  refine ⟨(at_ l 0).use, ?_, ?_, ?_, ?_⟩
  · rw [begin_yes hb, hn]; rfl
  · unfold nextA
    rw [if_pos ⟨hbo, hr⟩]
    rw [if_pos ⟨rfl, hall _ _ _⟩]
    rfl
  · unfold endsA
    rw [if_pos ⟨hok2, hr, rfl, hall _ _ _⟩]
    have hno : ¬ (false = true ∨ (at_ l (0 : Int).toNat).use ≠ ([(at_ l 0).use] : List Int)[(0 : Int).toNat]?.getD 0) := fun h => h.elim (fun h => by cases h) (fun h => h rfl)
    rw [if_neg hno]
    have hv := value_is hr
    rw [hl] at hv
    have : valueV c l = c.k + (at_ l 0).inc - (at_ l 0).use + 0 := by rw [hv]; simp only [sumN]; omega
    rw [this]
    rfl
  · unfold nextA
    rw [if_pos ⟨hok2, hr⟩]
    exact if_neg (fun h => by cases h.1)
end Go.Proofs.Ytgonboccklpoaaa

/- A config and an audit in two boxes. No function of the program in it. No law is proved here. -/
namespace Go.Proofs.Ytgonboccklpoaaa
open Go.RowKit

/-- a config and an audit in two boxes behind what was there -/
def KeptA (w : World) (g : Nat) (c : Cf) (x : Au) (p : Al) (wx : World) : Prop :=
  Below w.heap.size w wx ∧ Whole wx g 23 (cfCells c) ∧ Whole wx (g + 1) 33 (auCells x (.slice p.a1 p.m1 p.c1) (.slice p.a2 p.m2 p.c2) (.slice p.a3 p.m3 p.c3))
theorem KeptA.later {w : World} {g : Nat} {c : Cf} {x : Au} {p : Al} {wx wy : World} (h : KeptA w g c x p wx) (hb : Below wx.heap.size wx wy) : KeptA w g c x p wy := ⟨held_next h.1 hb, h.2.1.later hb h.2.1.lt, h.2.2.later hb h.2.2.lt⟩
theorem au_cells {w : World} {g : Nat} {x : Au} {tv uv iv : Value} (h : Whole w g 33 (auCells x tv uv iv)) :
    w.cell? ⟨g, 0, none⟩ = some (.int .i64 x.try_) ∧ w.cell? ⟨g, 1, none⟩ = some (.int .i64 x.ph) ∧ w.cell? ⟨g, 2, none⟩ = some tv ∧ w.cell? ⟨g, 3, none⟩ = some uv ∧ w.cell? ⟨g, 4, none⟩ = some iv ∧ w.cell? ⟨g, 5, none⟩ = some (.bool x.moved) :=
  ⟨h.cell 0, h.cell 1, h.cell 2, h.cell 3, h.cell 4, h.cell 5⟩
end Go.Proofs.Ytgonboccklpoaaa

/- The document's own, layer 15: is it no audit. No law is proved here. -/
namespace Go.Proofs.Ytgonboccklpoaaa
open Go.RowKit

set_option maxRecDepth 100000 in
set_option maxHeartbeats 4000000 in
theorem refnone_calls (x : Au) (p : Al) (w : World) (h1 : p.m1 = x.told.length) (h2 : p.m2 = x.use.length) (h3 : p.m3 = x.inc.length) (hb : p.m1 ≤ 9223372036854775807 ∧ p.m2 ≤ 9223372036854775807 ∧ p.m3 ≤ 9223372036854775807) :
    Calls Try.prog 11 #[auAt x p] w (Says w (noneA x)) := by
  have Hb0 := Lib.hid (below_box w (.cells (auCells x (.slice p.a1 p.m1 p.c1) (.slice p.a2 p.m2 p.c2) (.slice p.a3 p.m3 p.c3)) 33))
  obtain ⟨tr, ph, told, use, inc, moved⟩ := x
  obtain ⟨a1, m1, c1, a2, m2, c2, a3, m3, c3⟩ := p
  obtain ⟨hb1, hb2, hb3⟩ := hb
  simp only at h1 h2 h3 hb1 hb2 hb3
  obtain ⟨res, Hres⟩ : ∃ z, Hid (noneA ⟨tr, ph, told, use, inc, moved⟩ = z) := ⟨_, rfl⟩
  rw [Hres.out]
  have hr : res = decide (tr = 0 ∧ ph = 0 ∧ m1 = 0 ∧ m2 = 0 ∧ m3 = 0 ∧ moved = false) := by
    rw [← Hres.out, h1, h2, h3]
    unfold noneA
    simp only [Au.mk.injEq, List.length_eq_zero_iff]
  have HR := Lib.hid hr
  clear hr h1 h2 h3
  go_enter Try.func11, Try.ntmps11
  by_cases k1 : tr = 0
  · subst k1
    by_cases k2 : ph = 0
    · subst k2
      by_cases k3 : m1 = 0
      · subst k3
        by_cases k4 : m2 = 0
        · subst k4
          by_cases k5 : m3 = 0
          · subst k5
            cases moved with
            | false =>
              obtain rfl : res = true := by rw [HR.out]; simp
              go_wp2_with fail
              go_ret
              exact ⟨by rfl, Hb0.out⟩
            | true =>
              obtain rfl : res = false := by rw [HR.out]; simp
              go_wp2_with fail
              go_ret
              exact ⟨by rfl, Hb0.out⟩
          · obtain rfl : res = false := by rw [HR.out]; simp [k5]
            have k5' : ((m3 : Int) == 0) = false := beq_eq_false_iff_ne.2 (by omega)
            clear k5
            go_wp2_with fail
            go_ret
            exact ⟨by rfl, Hb0.out⟩
        · obtain rfl : res = false := by rw [HR.out]; simp [k4]
          have k4' : ((m2 : Int) == 0) = false := beq_eq_false_iff_ne.2 (by omega)
          clear k4
          go_wp2_with fail
          go_ret
          exact ⟨by rfl, Hb0.out⟩
      · obtain rfl : res = false := by rw [HR.out]; simp [k3]
        have k3' : ((m1 : Int) == 0) = false := beq_eq_false_iff_ne.2 (by omega)
        clear k3
        go_wp2_with fail
        go_ret
        exact ⟨by rfl, Hb0.out⟩
    · obtain rfl : res = false := by rw [HR.out]; simp [k2]
      have k2' : (ph == 0) = false := beq_eq_false_iff_ne.2 k2
      clear k2
      go_wp2_with fail
      go_ret
      exact ⟨by rfl, Hb0.out⟩
  · obtain rfl : res = false := by rw [HR.out]; simp [k1]
    have k1' : (tr == 0) = false := beq_eq_false_iff_ne.2 k1
    clear k1
    go_wp2_with fail
    go_ret
    exact ⟨by rfl, Hb0.out⟩
end Go.Proofs.Ytgonboccklpoaaa

/- The document's own, walked: may a config be. No law is proved here. -/
namespace Go.Proofs.Ytgonboccklpoaaa
open Go.RowKit

set_option maxRecDepth 100000 in
set_option maxHeartbeats 4000000 in
theorem refcfg_no (n q r p k c : Int) (w : World) (h : n < 1 ∨ 16 < n ∨ q < 1 ∨ 8 < q ∨ r < 0 ∨ 8 < r ∨ p < 1 ∨ 16 < p ∨ k < 0 ∨ c < 0) : Calls Try.prog 17 #[cfV ⟨n, q, r, p, k, c⟩] w (Says w false) := by
  by_cases h1 : n < 1
  · clear h
    go_enter Try.func17, Try.ntmps17
    go_wp2
    go_ret
    exact ⟨rfl, below_box _ _⟩
  by_cases h2 : 16 < n
  · clear h
    go_enter Try.func17, Try.ntmps17
    go_wp2
    go_ret
    exact ⟨rfl, below_box _ _⟩
  by_cases h3 : q < 1
  · clear h
    go_enter Try.func17, Try.ntmps17
    go_wp2
    go_ret
    exact ⟨rfl, below_box _ _⟩
  by_cases h4 : 8 < q
  · clear h
    go_enter Try.func17, Try.ntmps17
    go_wp2
    go_ret
    exact ⟨rfl, below_box _ _⟩
  by_cases h5 : r < 0
  · clear h
    go_enter Try.func17, Try.ntmps17
    go_wp2
    go_ret
    exact ⟨rfl, below_box _ _⟩
  by_cases h6 : 8 < r
  · clear h
    go_enter Try.func17, Try.ntmps17
    go_wp2
    go_ret
    exact ⟨rfl, below_box _ _⟩
  by_cases h7 : p < 1
  · clear h
    go_enter Try.func17, Try.ntmps17
    go_wp2
    go_ret
    exact ⟨rfl, below_box _ _⟩
  by_cases h8 : 16 < p
  · clear h
    go_enter Try.func17, Try.ntmps17
    go_wp2
    go_ret
    exact ⟨rfl, below_box _ _⟩
  by_cases h9 : k < 0
  · clear h
    go_enter Try.func17, Try.ntmps17
    go_wp2
    go_ret
    exact ⟨rfl, below_box _ _⟩
  by_cases h10 : c < 0
  · clear h
    go_enter Try.func17, Try.ntmps17
    go_wp2
    go_ret
    exact ⟨rfl, below_box _ _⟩
  omega
set_option maxRecDepth 100000 in
set_option maxHeartbeats 1000000 in
theorem refcfg_loop (n q r p k c : Int) (w : World) (h1 : 1 ≤ n) (h2 : n ≤ 16) (h3 : 1 ≤ q) (h4 : q ≤ 8) (h5 : 0 ≤ r) (h6 : r ≤ 8) (h7 : 1 ≤ p) (h8 : p ≤ 16) (h9 : 0 ≤ k) (h10 : 0 ≤ c) :
    Calls Try.prog 17 #[cfV ⟨n, q, r, p, k, c⟩] w (Says w (cfB ⟨n, q, r, p, k, c⟩)) := by
  obtain ⟨b, Hbb⟩ : ∃ b, Hid (cfB ⟨n, q, r, p, k, c⟩ = b) := ⟨_, rfl⟩
  rw [Hbb.out]
  go_enter Try.func17, Try.ntmps17
  go_wp2
  go_loop [3, 4] (fun l i => ∃ (j : Nat) (L : Int), (j : Int) ≤ n ∧ i = .int .i64 j ∧ l = .int .i64 L ∧ 0 ≤ L ∧ L ≤ 1099511627776 ∧ Hid (L = 1099511627776 - (j : Int) * c)) (fun _ i => (n - intOf i).toNat)
  case atStart => exact ⟨0, 1099511627776, by omega, rfl, rfl, by omega, by omega, show _ = _ by simp⟩
  case round =>
    obtain ⟨j, L, hj, rfl, rfl, hL0, hL1, HL⟩ := hrel
    by_cases hlt : (j : Int) < n
    · by_cases hc : L < c
      · obtain rfl : b = false := by
          refine Hbb.out.symm.trans (cfB_no fun h => ?_)
          have h11 := h.2.2.2.2.2.2.2.2.2.2
          have h12 := mul_step (k := (j : Int)) hlt h10
          have h13 := HL.out
          simp only at h11
          omega
        go_wp2
        go_ret
        exact ⟨rfl, below_box _ _⟩
      · have hs := mul_succ' j c
        have Hs := Lib.hid hs; clear hs
        go_wp2
        go_round
        case rel => exact ⟨j + 1, L - c, by omega, by go_num, rfl, by omega, by omega, show _ = _ by rw [Hs.out, HL.out]; omega⟩
        case measure => simp [intOf]; omega
    · have hjn : n = (j : Int) := by omega
      have HL' := HL.out
      rw [← hjn] at HL'
      by_cases hk : k ≤ L
      · obtain rfl : b = true := Hbb.out.symm.trans (cfB_yes ⟨h1, h2, h3, h4, h5, h6, h7, h8, h9, h10, by show k + n * c ≤ _; omega⟩)
        clear HL'
        have Hjn := Lib.hid hjn; clear hjn
        go_wp2
        go_ret
        exact ⟨by simp, below_box _ _⟩
      · obtain rfl : b = false := Hbb.out.symm.trans (cfB_no fun h => by
          have h11 := h.2.2.2.2.2.2.2.2.2.2
          simp only at h11
          omega)
        clear HL'
        have Hjn := Lib.hid hjn; clear hjn
        go_wp2
        go_ret
        exact ⟨by simp, below_box _ _⟩
theorem refcfg_calls (c : Cf) (w : World) : Calls Try.prog 17 #[cfV c] w (Says w (cfB c)) := by
  obtain ⟨n, q, r, p, k, cc⟩ := c
  by_cases h : n < 1 ∨ 16 < n ∨ q < 1 ∨ 8 < q ∨ r < 0 ∨ 8 < r ∨ p < 1 ∨ 16 < p ∨ k < 0 ∨ cc < 0
  · rw [cfB_no (fun h' => by unfold cfOk at h'; simp only at h'; omega)]
    exact refcfg_no n q r p k cc w h
  · exact refcfg_loop n q r p k cc w (by omega) (by omega) (by omega) (by omega) (by omega) (by omega) (by omega) (by omega) (by omega) (by omega)
end Go.Proofs.Ytgonboccklpoaaa
