/- Merged texts: AuditClear, RightsMay. No law is proved here. -/
import Derived.Test.YtgonboccklpoaaaMg21
import Derived.Lib.SliceRun
import Derived.Test.YtgonboccklpoaaaRightsWords
import Derived.Test.YtgonboccklpoaaaRightsCfg
import Derived.WalkKit
import Derived.ProofKit
import Derived.OpenShut
import Derived.WalkSpells
import Derived.Laws.AppendOwn
import Derived.Laws.AppendOwnNone
import Derived.Laws.OwnMore
import Derived.Lib.Hide
import Derived.Deep.Draws
import Derived.Deep.Slices
import Derived.Deep.Fields
import Derived.ChangeSame
import Derived.RegionTactic
import Derived.Maps.AppendAt
import Derived.Lib.SmallJoins
import Derived.RangeFuncNested
import Derived.RangeFuncBound
import Derived.RangeFuncLeaves
import Derived.RangeFuncBox
import Derived.Laws.MakeOwn
import Derived.LoopTactic
import Derived.BigRegion
import Derived.WalkLawsBesides
import Derived.IntWalk
import Derived.WalkSmall
import Derived.Deep.QuietTactic
import Derived.BigQuiet
import Derived.Deep.RegionHeld3
/- Cells written one behind the other in one block: what stays, and a list of bools cleared. No function of the program in it. No law is proved here. -/
namespace Go.Proofs.Ytgonboccklpoaaa
open Go.RowKit

theorem below_cells {B : Nat} {w0 : World} {b : Nat} (hb : B ≤ b) : ∀ (vs : List Value) (o : Nat) (w : World), Below B w0 w → Below B w0 (w.setCells b o vs)
  | [], _, _, h => h
  | v :: r, o, _, h => below_cells hb r (o + 1) _ (h.setCell (p := ⟨b, o, none⟩) hb v)
theorem whole_cells {g : Nat} {t : TypeId} {cs : Array Value} {b : Nat} (hne : g ≠ b) : ∀ (vs : List Value) (o : Nat) (w : World), Whole w g t cs → Whole (w.setCells b o vs) g t cs
  | [], _, _, h => h
  | v :: r, o, _, h => whole_cells hne r (o + 1) _ (h.other (p := ⟨b, o, none⟩) hne v)
theorem own_cells {base : Nat} {e : TypeId} {s n : Nat} {v : Value} {xs : List Value} {b : Nat} (hne : v.ownBlock ≠ some b) : ∀ (vs : List Value) (o : Nat) (w : World), w.ownsRow base e s v n xs → (w.setCells b o vs).ownsRow base e s v n xs
  | [], _, _, h => h
  | u :: r, o, _, h => own_cells hne r (o + 1) _ (own_other (q := ⟨b, o, none⟩) h hne u)
/-- the bools from o on, k of them, cleared -/
def clr (l : List Bool) (o : Nat) : Nat → List Bool
  | 0 => l
  | k + 1 => clr (l.set o false) (o + 1) k
theorem clr_length : ∀ (k o : Nat) (l : List Bool), (clr l o k).length = l.length
  | 0, _, _ => rfl
  | k + 1, o, l => by rw [clr, clr_length k (o + 1), List.length_set]
theorem clr_at : ∀ (k o i : Nat) (l : List Bool), o ≤ i → i < o + k → i < l.length → (clr l o k)[i]? = some false
  | 0, o, i, l, h1, h2, _ => by omega
  | k + 1, o, i, l, h1, h2, h3 => by
    rw [clr]
    by_cases e : i = o
    · subst e
      exact clr_low k (i + 1) i _ (by omega) (List.getElem?_set_self h3)
    · exact clr_at k (o + 1) i _ (by omega) (by omega) (by rw [List.length_set]; exact h3)
where
  clr_low : ∀ (k o i : Nat) (l : List Bool), i < o → l[i]? = some false → (clr l o k)[i]? = some false
    | 0, _, _, _, _, h => h
    | k + 1, o, i, l, h1, h => by
      rw [clr]
      exact clr_low k (o + 1) i _ (by omega) (by rw [List.getElem?_set_ne (by omega)]; exact h)
theorem clr_all (l : List Bool) : clr l 0 l.length = List.replicate l.length false := by
  apply List.ext_getElem?
  intro i
  by_cases hi : i < l.length
  · rw [clr_at l.length 0 i l (Nat.zero_le _) (by omega) hi, List.getElem?_replicate, if_pos hi]
  · rw [List.getElem?_eq_none (by rw [clr_length]; omega), List.getElem?_eq_none (by rw [List.length_replicate]; omega)]
theorem own_clear {base b n c : Nat} : ∀ (k o : Nat) (l : List Bool) (w : World), OwnT w base (.slice (some ⟨b, 0, none⟩) n c) l → o + k ≤ l.length → OwnT (w.setCells b o (List.replicate k (.bool false))) base (.slice (some ⟨b, 0, none⟩) n c) (clr l o k)
  | 0, _, _, _, h, _ => h
  | k + 1, o, l, w, h, ho => by
    obtain ⟨b', cap, hv, _, _, _, _, h2⟩ := own_t_set h (i := o) (by omega) false
    simp only [Value.slice.injEq, Option.some.injEq, Addr.mk.injEq] at hv
    obtain ⟨⟨rfl, _⟩, _⟩ := hv
    rw [List.replicate_succ]
    show OwnT ((w.setCell ⟨b, o, none⟩ (.bool false)).setCells b (o + 1) (List.replicate k (.bool false))) base _ (clr (l.set o false) (o + 1) k)
    exact own_clear k (o + 1) (l.set o false) _ h2 (by rw [List.length_set]; omega)
/-- WHAT clear COMES TO at a list of bools of the call's own -/
theorem run_clear_bools {w : World} {base b n c : Nat} {l : List Bool} (h : OwnT w base (.slice (some ⟨b, 0, none⟩) n c) l) (hn : n = l.length) (hpos : 0 < n) :
    (∀ ty, (Builtin.clear_ #[30] ty #[.slice (some ⟨b, 0, none⟩) n c]).run Try.prog w = .ok (.tuple #[]) (w.setCells b 0 (List.replicate n (.bool false)))) ∧ OwnT (w.setCells b 0 (List.replicate n (.bool false))) base (.slice (some ⟨b, 0, none⟩) n c) (List.replicate l.length false) := by
  subst hn
  obtain ⟨i0, hi, hz0, hz1, hz2⟩ := info_parts info_bool
  refine ⟨fun ty => Lib.run_clear_slice w _ _ ty (.bool false) Try.underlying30 (fun w => by simp [zeroValue, typeInfo, hi, hz0]) rfl rfl b 0 _ _ hpos (fun j hj => ?_) (fun j hj => ?_), ?_⟩
  · obtain ⟨b', cap, hv, _, _, _, hc, _⟩ := own_t_set h (i := j) hj false
    simp only [Value.slice.injEq, Option.some.injEq, Addr.mk.injEq] at hv
    obtain ⟨⟨rfl, _⟩, _⟩ := hv
    rw [Nat.zero_add, hc]; rfl
  · obtain ⟨b', cap, hv, _, _, hf, _, _⟩ := own_t_set h (i := j) hj false
    simp only [Value.slice.injEq, Option.some.injEq, Addr.mk.injEq] at hv
    obtain ⟨⟨rfl, _⟩, _⟩ := hv
    rw [Nat.zero_add, hf]
  · rw [← clr_all l]
    exact own_clear l.length 0 l w h (by omega)
end Go.Proofs.Ytgonboccklpoaaa

/- Package rights, walked: among, Share. No law is proved here. -/
namespace Go.Proofs.Ytgonboccklpoaaa
open Go.RowKit

theorem among_calls (c : Cf) (who : Int) (w : World) : Calls Try.prog 58 #[cfV c, .int .i64 who] w (Says w (amongB c who)) := by
  obtain ⟨n, q, r, p, k, cc⟩ := c
  by_cases h1 : 0 ≤ who
  · by_cases h2 : who < n
    · rw [amongB_yes ⟨h1, h2⟩]
      go_enter Try.func58, Try.ntmps58
      go_wp2
      go_ret
      exact ⟨by simp, below_box _ _⟩
    · rw [amongB_no (fun h => h2 h.2)]
      go_enter Try.func58, Try.ntmps58
      go_wp2
      go_ret
      exact ⟨by simp, below_box _ _⟩
  · rw [amongB_no (fun h => h1 h.1)]
    go_enter Try.func58, Try.ntmps58
    go_wp2
    go_ret
    exact ⟨by simp, below_box _ _⟩
set_option maxRecDepth 100000 in
set_option maxHeartbeats 4000000 in
theorem rShare_calls (c : Cf) (who : Int) (w : World) : Calls Try.prog 52 #[cfV c, .int .i64 who] w (Num w (shareV c who)) := by
  have HW := Lib.hid (Whole.made w 23 (cfCells c))
  have Hb0 := Lib.hid (below_box w (.cells (cfCells c) 23))
  obtain ⟨n, q, r, p, k, cc⟩ := c
  obtain ⟨ok, Hok⟩ : ∃ z, Hid (cfB ⟨n, q, r, p, k, cc⟩ = z) := ⟨_, rfl⟩
  obtain ⟨v, Hv⟩ : ∃ v, Hid (shareV ⟨n, q, r, p, k, cc⟩ who = v) := ⟨_, rfl⟩
  rw [Hv.out]
  go_enter Try.func52, Try.ntmps52
  go_wp2_with fail
  refine (rMay_calls ⟨n, q, r, p, k, cc⟩ _).mono ?_
  rintro e w1 ⟨rfl, hb⟩
  rw [Hok.out]
  have Hb1 := Lib.hid (held_next Hb0.out hb)
  have HW1 := Lib.hid (HW.out.later hb HW.out.lt)
  clear hb
  obtain ⟨d0, d1, d2, d3, d4, d5⟩ := config_cells HW1.out
  simp only at d0 d1 d2 d3 d4 d5
  cases ok with
  | false =>
    obtain rfl : v = 0 := Hv.out.symm.trans (shareV_no fun h => by
      have := cfB_yes h.1
      rw [Hok.out] at this
      cases this)
    go_wp2_with fail
    go_ret
    exact ⟨by rfl, Hb1.out⟩
  | true =>
  go_wp2_with fail
  refine (among_calls ⟨n, q, r, p, k, cc⟩ who _).mono ?_
  rintro e w2 ⟨rfl, hb⟩
  have Hb2 := Lib.hid (held_next Hb1.out hb)
  have HW2 := Lib.hid (HW1.out.later hb HW1.out.lt)
  clear hb d0 d1 d2 d3 d4 d5
  have d0 : w2.cell? ⟨w.heap.size, 0, none⟩ = some (.int .i64 n) := HW2.out.cell 0
  have d4 : w2.cell? ⟨w.heap.size, 4, none⟩ = some (.int .i64 k) := HW2.out.cell 4
  by_cases ha : 0 ≤ who ∧ who < n
  rotate_left 1
  · rw [amongB_no ha]
    obtain rfl : v = 0 := Hv.out.symm.trans (shareV_no fun h => ha h.2)
    go_wp2_with fail
    go_ret
    exact ⟨by rfl, Hb2.out⟩
  rw [amongB_yes ha]
  have hok := cfB_ok Hok.out
  have hv : v = k / n + (if who < k - k / n * n then 1 else 0) := Hv.out.symm.trans (if_pos ⟨hok, ha⟩)
  obtain ⟨g1, g2, _, _, _, _, _, _, g9, g10, g11⟩ := hok
  obtain ⟨ha0, ha1⟩ := ha
  simp only at g1 g2 g9 g10 g11
  have hkk : k ≤ 1099511627776 := by
    have := Int.mul_nonneg (show 0 ≤ n by omega) g10
    omega
  clear g10 g11
  have hq0 : 0 ≤ k / n := Int.ediv_nonneg g9 (by omega)
  have hqs : k / n ≤ k := Int.ediv_le_self n g9
  rw [← rem_eq] at hv
  have hr0 : 0 ≤ k % n := Int.emod_nonneg k (by omega)
  have hr1 : k % n < n := Int.emod_lt_of_pos k (by omega)
  obtain ⟨s, hs⟩ : ∃ s, k / n = s := ⟨_, rfl⟩
  obtain ⟨m, hm⟩ : ∃ m, k % n = m := ⟨_, rfl⟩
  rw [hs] at hq0 hqs hv
  rw [hm] at hr0 hr1 hv
  have Hv2 := Lib.hid hv; clear hv
  have hn0 : n ≠ 0 := by omega
  by_cases hw : who < m
  · have Hv1 : Hid (v = s + 1) := by rw [Hv2.out, if_pos hw]; exact rfl
    go_wp2_with fail
    go_ret
    exact ⟨by rw [Hv1.out]; rfl, Hb2.out⟩
  · have Hv1 : Hid (v = s) := by rw [Hv2.out, if_neg hw, Int.add_zero]; exact rfl
    go_wp2_with fail
    go_ret
    exact ⟨by rw [Hv1.out, ← hs]; rfl, Hb2.out⟩
end Go.Proofs.Ytgonboccklpoaaa
