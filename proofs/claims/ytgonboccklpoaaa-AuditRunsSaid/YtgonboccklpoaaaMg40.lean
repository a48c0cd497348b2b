/- Merged texts: LooksMade, RefRightsShort, AuditLight. No law is proved here. -/
import Derived.Test.YtgonboccklpoaaaClaimWords
import Derived.Laws.MakeOwn
import Derived.Test.YtgonboccklpoaaaRightsWords
import Derived.WalkKit
import Derived.ProofKit
import Derived.OpenShut
import Derived.WalkSpells
import Derived.Laws.AppendOwn
import Derived.Laws.AppendOwnNone
import Derived.Laws.OwnMore
import Derived.Lib.Hide
import Derived.Deep.Draws
import Derived.Deep.Slices
import Derived.Deep.Fields
import Derived.ChangeSame
import Derived.RegionTactic
import Derived.Maps.AppendAt
import Derived.Lib.SmallJoins
import Derived.RangeFuncNested
import Derived.RangeFuncBound
import Derived.RangeFuncLeaves
import Derived.RangeFuncBox
import Derived.Deep.QuietTactic
import Derived.BigQuiet
import Derived.LoopTactic
import Derived.WalkSmall
import Derived.Deep.RegionHeld3
import Derived.Test.YtgonboccklpoaaaMg39
import Derived.Test.YtgonboccklpoaaaMg11
/- Looks made at once, one of them set. No function of the program in it. No law is proved here. -/
namespace Go.Proofs.Ytgonboccklpoaaa
open Go.RowKit

theorem info_look : (Try.prog.info? 29).map (fun i => (i.zero, i.size, i.bytes)) = some (some (.agg #[.int .i64 0, .int .i64 0]), 2, 16) := by kernel_rfl
theorem made_look {m j : Nat} (h : j < m * 2) : (madeCells #[.int .i64 0, .int .i64 0] (m * 2))[j]? = some (.int .i64 0) := by
  unfold madeCells
  rw [Array.getElem?_map, Array.getElem?_range, if_pos h]
  have : j % 2 = 0 ∨ j % 2 = 1 := by omega
  rcases this with e | e
  · show some ((#[Value.int .i64 0, Value.int .i64 0])[j % 2]!) = _; rw [e]; rfl
  · show some ((#[Value.int .i64 0, Value.int .i64 0])[j % 2]!) = _; rw [e]; rfl
theorem run_make_looks {w : World} {m : Nat} (h16 : m ≤ 1000) : (Instr.makeSlice 38 (.int .i64 (m : Int)) (.int .i64 (m : Int))).run Try.prog w = .ok (.slice (some ⟨w.heap.size, 0, none⟩) m m) (w.alloc (.cells (madeCells #[.int .i64 0, .int .i64 0] (m * 2)) 29)) := by
  obtain ⟨i0, hi, hz0, hz1, hz2⟩ := info_parts info_look
  have := run_make (P := Try.prog) w 38 29 i0 (.agg #[.int .i64 0, .int .i64 0]) Try.underlying38 hi hz0 .i64 .i64 (m : Int) (m : Int) (by omega) (by omega) (by rw [hz2]; omega) (by omega)
  simpa [hz1, show (Value.agg #[.int .i64 0, .int .i64 0]).cells = #[.int .i64 0, .int .i64 0] from rfl] using this
theorem looks_set {w : World} {g m u : Nat} {t p : Int} (hm : m ≤ 1000) (hu : u < m) (h : Whole w g 29 (((madeCells #[.int .i64 0, .int .i64 0] (m * 2)).setIfInBounds (u * 2) (.int .i64 t)).setIfInBounds (u * 2 + 1) (.int .i64 p))) :
    Looks w (.slice (some ⟨g, 0, none⟩) m m) ((List.replicate m ((0, 0) : Int × Int)).set u (t, p)) := by
  have hl : ((List.replicate m ((0, 0) : Int × Int)).set u (t, p)).length = m := by rw [List.length_set, List.length_replicate]
  refine ⟨by rw [hl]; omega, Or.inr ⟨g, 0, m, by rw [hl], by rw [hl]; exact Nat.le_refl _, fun i j hi hj => ?_⟩⟩
  rw [hl] at hi
  rw [h.cell, Nat.zero_add, Array.getElem?_setIfInBounds, Array.getElem?_setIfInBounds, Array.size_setIfInBounds, size_madeCells]
  have hlk : lkAt ((List.replicate m ((0, 0) : Int × Int)).set u (t, p)) i = if i = u then (t, p) else (0, 0) := by
    unfold lkAt
    by_cases h : i = u
    · rw [if_pos h, h, List.getElem?_set_self (by simpa using hu)]; rfl
    · rw [if_neg h, List.getElem?_set_ne (fun e => h e.symm), List.getElem?_replicate, if_pos hi]; rfl
  show _ = some (lkc (lkAt ((List.replicate m ((0, 0) : Int × Int)).set u (t, p)) i) j)
  rw [hlk]
  by_cases h1 : i = u
  · subst h1
    rw [if_pos rfl]
    have hj2 : j = 0 ∨ j = 1 := by omega
    rcases hj2 with rfl | rfl
    · rw [if_neg (by omega), if_pos (by omega), if_pos (by omega)]; rfl
    · rw [if_pos (by omega), if_pos (by omega)]; rfl
  · rw [if_neg h1, if_neg (by omega), if_neg (by omega), made_look (by omega)]
    unfold lkc
    split <;> rfl
theorem ml_cells' {w : World} {g : Nat} {x : Ml} {rv ev : Value} (h : Whole w g 40 (mlCells x rv ev)) :
    (w.cell? ⟨g, 0, none⟩ = some (.int .i64 x.fr) ∧ w.cell? ⟨g, 1, none⟩ = some (.int .i64 x.to) ∧ w.cell? ⟨g, 2, none⟩ = some (.int .i64 x.clk) ∧ w.cell? ⟨g, 3, none⟩ = some rv) ∧
    (w.cell? ⟨g, 4, none⟩ = some (.int .i64 x.t) ∧ w.cell? ⟨g, 5, none⟩ = some (.int .i64 x.a) ∧ w.cell? ⟨g, 6, none⟩ = some (.int .i64 x.m) ∧ w.cell? ⟨g, 7, none⟩ = some (.int .i64 x.asks)) ∧
    w.cell? ⟨g, 8, none⟩ = some (.int .i64 x.try_) ∧ w.cell? ⟨g, 9, none⟩ = some (.int .i64 x.ph) ∧ w.cell? ⟨g, 10, none⟩ = some ev :=
  ⟨⟨h.cell 0, h.cell 1, h.cell 2, h.cell 3⟩, ⟨h.cell 4, h.cell 5, h.cell 6, h.cell 7⟩, h.cell 8, h.cell 9, h.cell 10⟩
end Go.Proofs.Ytgonboccklpoaaa

/- The document's own, walked: are books short. No law is proved here. -/
namespace Go.Proofs.Ytgonboccklpoaaa
open Go.RowKit

set_option maxRecDepth 100000 in
set_option maxHeartbeats 1000000 in
theorem refshort_calls (a : Option Addr) (m d : Nat) (l : List Rw) (hm : m = l.length) (hR : Reach l) (w : World) (hA : Books w (.slice a m d) l) :
    Calls Try.prog 8 #[.slice a m d] w (Says w (shortB l)) := by
  have hbm : m ≤ 17592186044416 := by rw [hm]; exact hR.1
  have HA := Lib.hid hA; clear hA
  have Hm := Lib.hid hm; clear hm
  have HR := Lib.hid hR; clear hR
  obtain ⟨res, Hres⟩ : ∃ z, Hid (shortB l = z) := ⟨_, rfl⟩
  rw [Hres.out]
  go_enter Try.func8, Try.ntmps8
  go_wp2
  go_loop [3, 4] (fun t x => ∃ k T : Nat, k ≤ m ∧ x = .int .i64 k ∧ t = .int .i64 T ∧ T ≤ 17592186045000 ∧ Hid (T = bulk l k)) (fun _ x => m - (intOf x).toNat)
  case atStart => exact ⟨0, m, Nat.zero_le _, rfl, rfl, by omega, Hm.out⟩
  case round =>
    obtain ⟨k, T, hk, rfl, rfl, hT, HT⟩ := hrel
    by_cases h4 : T ≤ 400
    · by_cases hlt : k < m
      · obtain ⟨g1, o1, A1, C1, rfl, _, _, _, c2, _⟩ := HA.out.at (k := k) (by have := Hm.out; omega)
        have hx := HR.out.2 k (by have := Hm.out; omega)
        obtain ⟨x, Hx⟩ : ∃ z, Hid ((at_ l k).out.length = z) := ⟨_, rfl⟩
        rw [Hx.out] at c2 hx
        have k0 : (0 : Int) ≤ (k : Int) := by omega
        have k1 : (k : Int) < (m : Int) := by omega
        go_wp2
        go_round
        case rel => exact ⟨k + 1, T + x, by omega, by go_num, by go_num, by omega, show _ = _ by rw [HT.out, ← Hx.out]; rfl⟩
        case measure => simp [intOf]; omega
      · have hkm : k = m := by omega
        obtain rfl : res = true := Hres.out.symm.trans (decide_eq_true (by rw [← Hm.out, ← hkm, ← HT.out]; exact h4))
        have Hkm := Lib.hid hkm; clear hkm
        go_wp2
        go_ret
        exact ⟨by simp; omega, Below.refl _ _⟩
    · obtain rfl : res = false := Hres.out.symm.trans (decide_eq_false fun h => by
        have := bulk_mono l k l.length (by have := Hm.out; omega)
        have := HT.out
        omega)
      go_wp2
      all_goals go_ret
      all_goals exact ⟨by simp; omega, Below.refl _ _⟩
end Go.Proofs.Ytgonboccklpoaaa

/- Layer 15: is a message too much for a look? No law is proved here. -/
namespace Go.Proofs.Ytgonboccklpoaaa
open Go.RowKit

/-- yes or no, and what was there has not turned -/
def SaysOne (w : World) (e : Ending) (w' : World) : Prop := ∃ b, e = .returned (.bool b) ∧ Below w.heap.size w w'
set_option maxRecDepth 100000 in
set_option maxHeartbeats 4000000 in
theorem light15 (a : Option Addr) (m cp : Nat) (l : List Rw) (hm : m = l.length) (hR : Reach l) (x : Ml) (a1 : Option Addr) (m1 c1 : Nat) (a2 : Option Addr) (m2 c2 : Nat) (hR1 : Reach x.rows) (w : World) (hB : Books w (.slice a m cp) l) (hM : MailIn w a1 m1 c1 a2 m2 c2 x) :
    Calls Try.prog 7 #[.agg #[.int .i64 0, .int .i64 0, .slice none 0 0, .slice none 0 0, .slice none 0 0, .bool false], .slice a m cp, mlV x (.slice a1 m1 c1) (.slice a2 m2 c2)] w (SaysOne w) := by
  obtain ⟨hm1, hB1, hm2, hB2⟩ := hM
  have hbig2 : m2 ≤ 9223372036854775807 := by rw [hm2]; exact hB2.1
  have HB := Lib.hid hB
  have HB1 := Lib.hid hB1
  have HX := Lib.hid (Whole.made2 w (.cells #[.int .i64 0, .int .i64 0, .slice none 0 0, .slice none 0 0, .slice none 0 0, .bool false] 33) 40 (mlCells x (.slice a1 m1 c1) (.slice a2 m2 c2)))
  have Hb0 := Lib.hid (below_two w (.cells #[.int .i64 0, .int .i64 0, .slice none 0 0, .slice none 0 0, .slice none 0 0, .bool false] 33) (.cells (mlCells x (.slice a1 m1 c1) (.slice a2 m2 c2)) 40))
  clear hB hB1 hB2
  obtain ⟨fr, tg, clk, rows, t, ai, v, asks, try_, ph, echo⟩ := x
  obtain ⟨z, Hz⟩ : ∃ z, Hid (shortB l = z) := ⟨_, rfl⟩
  obtain ⟨y, Hy⟩ : ∃ z, Hid (shortB rows = z) := ⟨_, rfl⟩
  have hcall := fun w hw => refshort_calls a m cp l hm hR w hw
  have hcall2 := fun w hw => refshort_calls a1 m1 c1 rows hm1 hR1 w hw
  rw [Hz.out] at hcall
  rw [Hy.out] at hcall2
  have Hcall := Lib.hid hcall
  have Hcall2 := Lib.hid hcall2
  clear hcall hcall2 hm1 hm2 hR hR1 hm
  go_enter Try.func7, Try.ntmps7
  go_wp2_with fail
  refine (Hcall.out _ (HB.out.later Hb0.out)).mono ?_
  rintro e w1 ⟨rfl, hb⟩
  have Hb1 := Lib.hid (held_next Hb0.out hb)
  have HX1 := Lib.hid (HX.out.later hb HX.out.lt)
  clear hb
  obtain ⟨⟨M0, M1, M2, M3⟩, ⟨M4, M5, M6, M7⟩, M8, M9, M10⟩ := ml_cells' HX1.out
  simp only at M0 M1 M2 M3 M4 M5 M6 M7 M8 M9 M10
  cases z with
  | false =>
    go_wp2_with fail
    go_ret
    exact ⟨_, rfl, Hb1.out⟩
  | true =>
  go_wp2_with fail
  refine (Hcall2.out _ (HB1.out.later Hb1.out)).mono ?_
  rintro e w2 ⟨rfl, hb⟩
  have Hb2 := Lib.hid (held_next Hb1.out hb)
  have HX2 := Lib.hid (HX1.out.later hb HX1.out.lt)
  clear hb M0 M1 M2 M3 M4 M5 M6 M7 M8 M9 M10
  obtain ⟨⟨M0, M1, M2, M3⟩, ⟨M4, M5, M6, M7⟩, M8, M9, M10⟩ := ml_cells' HX2.out
  simp only at M0 M1 M2 M3 M4 M5 M6 M7 M8 M9 M10
  cases y with
  | false =>
    go_wp2_with fail
    go_ret
    exact ⟨_, rfl, Hb2.out⟩
  | true =>
  go_wp2_with fail
  go_ret
  exact ⟨_, rfl, Hb2.out⟩
end Go.Proofs.Ytgonboccklpoaaa
