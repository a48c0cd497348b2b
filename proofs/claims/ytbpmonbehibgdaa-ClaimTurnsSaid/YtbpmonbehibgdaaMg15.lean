/- Merged texts: ClaimOpen, RqEql, RefStampMay, RefStamp. No law is proved here. -/
import Derived.Test.YtbpmonbehibgdaaMailOpen
import Derived.Lib.SmallJoins
import Derived.Test.YtbpmonbehibgdaaMg11
import Derived.WalkKit
import Derived.ProofKit
import Derived.WalkLawsBesides
import Derived.ChangeSame
import Derived.Deep.QuietTactic
import Derived.BigQuiet
/- Notes, a stamp, that came in. No law is proved here. -/
namespace Go.Proofs.Ytbpmonbehibgdaa
open Go.ChangeShapes Go.WideShapes Go.ChangeAt Go.RowKit Go.Joins Go.Deep

theorem cells_note : Try.prog.cellsOf 47 = 7 := by kernel_rfl
section
variable {H : Type} {enc : TypeId × Value → H} {W : World} {fuel : Nat} {x : DataW H × List MemPlace}
theorem seven_note {v0 v1 v2 v3 v4 v5 v6 : Value} (h : DataW.trod enc Try.prog W 0 (fun _ => true) true fuel 47 [v0, v1, v2, v3, v4, v5, v6] = some x) :
    ∃ q : Nt, v0 = .int .i64 q.clk ∧ v1 = .int .i64 q.t ∧ v2 = .int .i64 q.a ∧ v3 = .int .i64 q.m ∧ v4 = .int .i64 q.asks ∧ v5 = .int .i64 q.try_ ∧ v6 = .int .i64 q.ph := by
  obtain ⟨y0, y1, y2, y3, n, _, _, h0, h1, h2, h3⟩ := trod_struct4 Try.underlying47 h
  obtain ⟨clk, e0⟩ := one_int64 (v := v0) h0
  obtain ⟨t, a, m, e1, e2, e3⟩ := three_request (a := v1) (b := v2) (c := v3) h1
  obtain ⟨asks, e4⟩ := one_int (v := v4) h2
  obtain ⟨tr, ph, e5, e6⟩ := two_look (a := v5) (b := v6) h3
  exact ⟨⟨clk, t, a, m, asks, tr, ph⟩, e0, e1, e2, e3, e4, e5, e6⟩
end
theorem open_notes_in {H : Type} {enc : TypeId × Value → H} {W : World} {v : Value} {d : DataW H} {p : List MemPlace} (hv : ∃ a len cap, v = .slice a len cap)
    (h : DataW.Trod enc Try.prog W 0 (fun _ => true) true 24 v d p) : ∃ a n c l, v = .slice a n c ∧ n = l.length ∧ n ≤ c ∧ Notes W (.slice a n c) l := by
  obtain ⟨a, n, c, f, rfl, hnc, _, hE, hf⟩ := open_elems_in Try.underlying24 cells_note (by decide) hv h
  refine ⟨a, n, c, (List.range n).map (fun i => ⟨cellInt' (f i 0), cellInt' (f i 1), cellInt' (f i 2), cellInt' (f i 3), cellInt' (f i 4), cellInt' (f i 5), cellInt' (f i 6)⟩), rfl, by simp, hnc, ?_⟩
  unfold Notes
  rw [List.length_map, List.length_range]
  refine hE.congr fun i j hi hj => ?_
  obtain ⟨fu, x, hx⟩ := hf i hi
  have hr : (List.range 7).map (f i) = [f i 0, f i 1, f i 2, f i 3, f i 4, f i 5, f i 6] := rfl
  rw [hr] at hx
  obtain ⟨q, e0, e1, e2, e3, e4, e5, e6⟩ := seven_note hx
  have e : ntAt ((List.range n).map (fun i => (⟨cellInt' (f i 0), cellInt' (f i 1), cellInt' (f i 2), cellInt' (f i 3), cellInt' (f i 4), cellInt' (f i 5), cellInt' (f i 6)⟩ : Nt))) i = q := by
    unfold ntAt
    rw [List.getElem?_map, List.getElem?_range hi]
    simp only [Option.map_some, Option.getD_some, e0, e1, e2, e3, e4, e5, e6]
    rfl
  rw [e]
  match j, hj with
  | 0, _ => exact e0
  | 1, _ => exact e1
  | 2, _ => exact e2
  | 3, _ => exact e3
  | 4, _ => exact e4
  | 5, _ => exact e5
  | 6, _ => exact e6
theorem open_notes {H : Type} {enc : TypeId × Value → H} {W : World} {base : Nat} {v : Value} {d : DataW H} {p : List MemPlace} (hv : Value.okWide Try.prog W .any base 24 v)
    (h : DataW.Trod enc Try.prog W 0 (fun _ => true) true 24 v d p) : ∃ a n c l, v = .slice a n c ∧ n = l.length ∧ n ≤ c ∧ Notes W (.slice a n c) l := open_notes_in (okWide_slice Try.underlying24 hv) h
theorem open_stamp1 {H : Type} {enc : TypeId × Value → H} {W : World} {base : Nat} {v : Value} {d : DataW H} {p : List MemPlace} (hv : Value.okWide Try.prog W .any base 27 v)
    (h : DataW.Trod enc Try.prog W 0 (fun _ => true) true 27 v d p) : ∃ t u, v = stampV t u := by
  obtain ⟨cs, rfl, hsz⟩ := okWide_struct Try.underlying27 hv
  obtain ⟨fuel, hf⟩ := h
  rw [show Try.prog.cellsOf 27 = 2 by kernel_rfl] at hsz
  obtain ⟨l⟩ := cs
  match l, hsz with
  | [a, b], _ =>
    obtain ⟨t, u, rfl, rfl⟩ := two_stamp (a := a) (b := b) hf
    exact ⟨t, u, rfl⟩
end Go.Proofs.Ytbpmonbehibgdaa

/- Two requests, by == : their fields. No law is proved here. -/
namespace Go.Proofs.Ytbpmonbehibgdaa
open Go.RowKit

theorem run_eql_rqs (w : World) (x y : Rq) : (binOp .eql 29 (rqV x) (rqV y)).run Try.prog w = .ok (.bool (decide (x = y))) w := by
  obtain ⟨t, a, m⟩ := x
  obtain ⟨u, b, n⟩ := y
  by_cases h1 : t = u
  · subst h1
    by_cases h2 : a = b
    · subst h2
      by_cases h3 : m = n
      · subst h3; simp [go_sem, Try.underlying29, Try.underlying27]
      · simp [go_sem, Try.underlying29, Try.underlying27, h3]
    · simp [go_sem, Try.underlying29, Try.underlying27, h2]
  · simp [go_sem, Try.underlying29, Try.underlying27, h1]
end Go.Proofs.Ytbpmonbehibgdaa

/- The document's own, layer 3: Older, May. No law is proved here. -/
namespace Go.Proofs.Ytbpmonbehibgdaa
open Go.RowKit

set_option maxHeartbeats 400000 in
theorem refstampmay_calls (t a n : Int) (w : World) :
    Calls Try.prog 41 #[stampV t a, .int .i64 n] w (Says w (mayB t a n)) := by
  by_cases h : 1 ≤ t ∧ t ≤ 1125899906842624 ∧ 0 ≤ a ∧ a < n
  · rw [mayB_yes h]
    obtain ⟨h1, h2, h3, h4⟩ := h
    have h0 : 0 < t := by omega
    go_enter Try.func41, Try.ntmps41
    go_wp2_with fail
    go_ret
    exact ⟨by simp_all, below_box _ _⟩
  · rw [mayB_no h]
    by_cases h1 : 0 < t
    · by_cases h2 : t ≤ 1125899906842624
      · by_cases h3 : 0 ≤ a
        · have h4 : ¬ a < n := by omega
          clear h
          go_enter Try.func41, Try.ntmps41
          go_wp2_with fail
          go_ret
          exact ⟨by simp_all, below_box _ _⟩
        · clear h
          go_enter Try.func41, Try.ntmps41
          go_wp2_with fail
          go_ret
          exact ⟨by simp_all, below_box _ _⟩
      · clear h
        go_enter Try.func41, Try.ntmps41
        go_wp2_with fail
        go_ret
        exact ⟨by simp_all, below_box _ _⟩
    · clear h
      go_enter Try.func41, Try.ntmps41
      go_wp2_with fail
      go_ret
      exact ⟨by simp_all, below_box _ _⟩
end Go.Proofs.Ytbpmonbehibgdaa

/- The document's own, layer 3: Older, May. No law is proved here. -/
namespace Go.Proofs.Ytbpmonbehibgdaa
open Go.RowKit

set_option maxHeartbeats 400000 in
theorem refolder_calls (t a u b : Int) (w : World) :
    Calls Try.prog 17 #[stampV t a, stampV u b] w (Says w (olderB t a u b)) := by
  by_cases h1 : t < u
  · rw [olderB_yes (Or.inl h1)]
    go_enter Try.func17, Try.ntmps17
    go_wp2_with fail
    go_ret
    exact ⟨by simp_all, below_two _ _ _⟩
  · by_cases h2 : t = u
    · subst h2
      by_cases h3 : a < b
      · rw [olderB_yes (Or.inr ⟨rfl, h3⟩)]
        go_enter Try.func17, Try.ntmps17
        go_wp2_with fail
        go_ret
        exact ⟨by simp_all, below_two _ _ _⟩
      · rw [olderB_no (by omega)]
        go_enter Try.func17, Try.ntmps17
        go_wp2_with fail
        go_ret
        exact ⟨by simp_all, below_two _ _ _⟩
    · rw [olderB_no (by omega)]
      have hn : (t == u) = false := beq_eq_false_iff_ne.2 h2
      go_enter Try.func17, Try.ntmps17
      go_wp2_with fail
      go_ret
      exact ⟨by simp_all, below_two _ _ _⟩
end Go.Proofs.Ytbpmonbehibgdaa
