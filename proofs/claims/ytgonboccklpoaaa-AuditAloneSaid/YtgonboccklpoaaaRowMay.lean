/- Package row: May. No law is proved here. -/
import Derived.Test.YtgonboccklpoaaaRowLimits
import Derived.RangeFuncNested
import Derived.RangeFuncBound
import Derived.RangeFuncCalls
import Derived.RangeFuncLeaves
import Derived.RangeFuncBox
import Derived.Shelf.Abstract
import Derived.Shelf.RegionOpen
import Derived.WalkKit
import Derived.OwnWalkIn
import Derived.TacticsInMore
import Derived.LoopNIn
import Derived.LoopIn
import Derived.Laws.MakeOwn
import Derived.Maps.AppendAt
import Derived.ProofKit
import Derived.OpenShut
import Derived.WalkSpells
import Derived.Laws.AppendOwn
import Derived.Laws.AppendOwnNone
import Derived.Laws.OwnMore
import Derived.Lib.Hide
import Derived.Deep.Draws
import Derived.Deep.Slices
import Derived.Deep.Fields
import Derived.ChangeSame
import Derived.RegionTactic
namespace Go.Proofs.Ytgonboccklpoaaa
open Go.RowKit Go.Shelf

attribute [local go_sem] Oper.semAt_some
theorem counts_in (F : Fence) (n : Nat) (hF : F.fn 47) (hro : F.round = none) (v : Int) (w : World) : CallsIn F n Try.prog 47 #[.int .i64 v] w (fun e w' => e = .returned (.bool (countB v)) ∧ w = w') := by
  refine callsIn_of_wp Try.func47 rfl hF ?_ hro
  simp only [Try.ntmps47, List.size_toArray, List.length_cons, List.length_nil, Nat.reduceAdd, Nat.reduceSub, Array.replicate_succ, Array.replicate_zero, List.push_toArray, List.append_toArray, List.nil_append, List.cons_append]
  by_cases h1 : 0 ≤ v
  · by_cases h2 : v ≤ 1099511627776
    · rw [countB_yes ⟨h1, h2⟩]
      gi_wp2
      go_ret
      exact ⟨by simp, rfl⟩
    · rw [countB_no (by omega)]
      gi_wp2
      go_ret
      exact ⟨by simp, rfl⟩
  · rw [countB_no (by omega)]
    gi_wp2
    go_ret
    exact ⟨by simp, rfl⟩
theorem counts_calls (v : Int) (w : World) : Calls Try.prog 47 #[.int .i64 v] w (fun e w' => e = .returned (.bool (countB v)) ∧ w = w') :=
  callsIn_wide.1 (counts_in Fence.wide 9 trivial rfl v w)
set_option maxRecDepth 100000 in
set_option maxHeartbeats 2000000 in
theorem may_loop (F : Fence) (N : Nat) (hf : ∀ k, F.fn k) (hro : F.round = none) (hN : 3 ≤ N) (a : Option Addr) (n c : Nat) (i u who : Int) (la : List Int) (hn : n = la.length) (w : World) (hA : Nums w (.slice a n c) la)
    (h0 : 0 ≤ who) (hwn : who < n) (hi : countB i = true) (hu : countB u = true) : CallsIn F N Try.prog 37 #[rowV i u (.slice a n c), .int .i64 (n : Int), .int .i64 who] w (Says w (fits (la.zip (mosts who n)))) := by
  have hbig : n ≤ 9223372036854775807 := by rw [hn]; exact hA.1
  have h1 : 1 ≤ N := by omega
  have HA := Lib.hid hA; clear hA
  have Hn := Lib.hid hn; clear hn
  have Hi := Lib.hid hi; clear hi
  have Hu := Lib.hid hu; clear hu
  refine callsIn_of_wp_marks Try.func37 rfl (hf _) ?_ hro
  simp only [Try.ntmps37, List.size_toArray, List.length_cons, List.length_nil, Nat.reduceAdd, Nat.reduceSub, Array.replicate_succ, Array.replicate_zero, List.push_toArray, List.append_toArray, List.nil_append, List.cons_append]
  gi_wp2_with fail
  refine (counts_in F (N - 1) (hf _) hro i _).mono ?_
  rintro e w' ⟨rfl, rfl⟩
  rw [Hi.out]
  gi_wp2_with fail
  refine (counts_in F (N - 1) (hf _) hro u _).mono ?_
  rintro e w' ⟨rfl, rfl⟩
  rw [Hu.out]
  gi_wp2_with (gi_at_call 48; refine (limits_in F (N - 1) (hf _) hro _ _ _ _ _).mono ?_; rintro e w' ⟨rfl, rfl⟩)
  have c2 := Boxed.new (w.alloc (.cells #[.int .i64 i, .int .i64 u, .slice a n c] 58)) 4 (.bool false)
  obtain ⟨w3, hw3⟩ : ∃ w3, (w.alloc (.cells #[.int .i64 i, .int .i64 u, .slice a n c] 58)).alloc (.cells #[.bool false] 4) = w3 := ⟨_, rfl⟩
  have hs3 : w3.heap.size = w.heap.size + 1 + 1 := by rw [← hw3]; simp
  have hb3 : Below w.heap.size w w3 := by rw [← hw3]; exact below_two w _ _
  simp only [World.size_alloc] at c2
  rw [hw3] at c2 ⊢
  clear hw3
  have bA := Boxed.new w3 31 (.slice a n c)
  have bB := Boxed.new (w3.alloc (.cells #[.slice a n c] 31)) 3 (.int .i64 who)
  rw [World.size_alloc] at bB
  rw [hs3] at bA bB
  have hB0 : Below w.heap.size w ((w3.alloc (.cells #[.slice a n c] 31)).alloc (.cells #[.int .i64 who] 3)) := (hb3.alloc (by omega) _).alloc (by simp; omega) _
  refine wpIn_rangeFunc_ownG hro h1 (gf := 56) (lb := #[.pointer (some ⟨w.heap.size + 1 + 1, 0, none⟩), .pointer (some ⟨w.heap.size + 1 + 1 + 1, 0, none⟩)]) rfl (hf _) (enters_of Try.func56 (by kernel_rfl) rfl)
    (limits_stops F (N - 1) (hf _) hro (by omega) (w.heap.size + 1 + 1) (w.heap.size + 1 + 1 + 1) w a n c who la Hn.out HA.out _ hB0 (bA.alloc _) bB) kept_trans (kept_put (by simp; omega) (by simp; omega)) (Below.refl _ _) (fun _ => rfl)
    (fun pre W => ((∀ x ∈ pre, 0 ≤ x.1 ∧ x.1 ≤ x.2) ∧ Boxed W (w.heap.size + 1) 4 (.bool false)) ∧ Below w.heap.size w W)
    (fun cd pre W => (cd = .ret ∧ Bad pre ∧ Boxed W (w.heap.size + 1) 4 (.bool false)) ∧ Below w.heap.size w W)
    (OwnFrom.and (Own.from (fun s A B row hs hg hr => ⟨hs.1, box_kept hs.2 hg hr⟩) _) (ownFrom_below (Nat.le_refl _) (by simp; omega)))
    (fun cd => OwnFrom.and (Own.from (fun s A B row hs hg hr => ⟨hs.1, hs.2.1, box_kept hs.2.2 hg hr⟩) _) (ownFrom_below (Nat.le_refl _) (by simp; omega)))
    ⟨⟨by simp, (c2.alloc _).alloc _⟩, hB0⟩
    ?a1 ?assign ?body ?done ?stop
  case assign =>
    intro l x W K hK
    gi_wp2
    exact hK
  case body =>
    rintro l pre x W ⟨⟨hp, hr⟩, hB⟩ _
    have hc := hr.cell
    have hfz := hr.frozen
    by_cases hx0 : 0 ≤ x.1
    · by_cases hx1 : x.1 ≤ x.2
      · gi_wp2
        exact ⟨KeepsFrom.refl _ _, kept_refl _ _ _, ⟨fun y hy => (List.mem_append.1 hy).elim (hp y) (fun e => by simp at e; subst e; exact ⟨hx0, hx1⟩), hr⟩, hB⟩
      · gi_wp2
        exact ⟨(KeepsOthers.setCell _ _ _).from _, ⟨rfl, bad_of (by omega), hr.set _⟩, hB.setCell (p := ⟨w.heap.size + 1, 0, none⟩) (by simp) _⟩
    · gi_wp2
      exact ⟨(KeepsOthers.setCell _ _ _).from _, ⟨rfl, bad_of (by omega), hr.set _⟩, hB.setCell (p := ⟨w.heap.size + 1, 0, none⟩) (by simp) _⟩
  case done =>
    rintro D ys W hD rfl ⟨⟨hp, hr⟩, hB⟩ hK
    have hc := hr.cell
    have hfz := hr.frozen
    gi_wp2
    have hK' := (KeepsOthers.setCell W ⟨w.heap.size + 1, 0, none⟩ (.bool true)).same D _ hK rfl
    refine ⟨by simp, .inl ⟨_, _, rfl, run_takeDeferred hK', ?_⟩⟩
    have hc5 := cell_kept (hr.set (.bool true)).cell (grownBy_putObj' _ D (.deferred none)) (fun r e => by cases e; exact ⟨_, hK', rfl⟩)
    refine ⟨.bool true, ?_, by rw [fits_yes hp], (hB.setCell (p := ⟨w.heap.size + 1, 0, none⟩) (by simp) _).trans (belowK_b (w := w) (Nat.le_refl _) _ D _ _ (by simp at hD; omega) hK' rfl rfl)⟩
    simp [results, Try.f37, go_sem, hc5]
  case stop =>
    rintro D cd pre W hD ⟨k, hk, rfl⟩ ⟨⟨rfl, hbad, hr⟩, hB⟩ hK
    gi_wp2
    refine ⟨by simp, .inl ⟨_, _, rfl, run_takeDeferred hK, ?_⟩⟩
    have hc5 := cell_kept hr.cell (grownBy_putObj' _ D (.deferred none)) (fun r e => by cases e; exact ⟨_, hK, rfl⟩)
    refine ⟨.bool false, ?_, by rw [hbad.fits], hB.trans (belowK_b (w := w) (Nat.le_refl _) W D _ _ (by simp at hD; omega) hK rfl rfl)⟩
    simp [results, Try.f37, go_sem, hc5]
section
variable (a : Option Addr) (n c : Nat) (i u m who : Int) (w : World)
set_option maxHeartbeats 1000000 in
theorem may_no (h : ¬ (((n : Int) = m ∧ 0 ≤ who ∧ who < m) ∧ countB i = true ∧ countB u = true)) : Calls Try.prog 37 #[rowV i u (.slice a n c), .int .i64 m, .int .i64 who] w (Says w false) := by
  by_cases h1 : (n : Int) = m
  · subst h1
    by_cases h2 : 0 ≤ who
    · by_cases h3 : who < (n : Int)
      · cases hi : countB i with
        | false =>
          have Hi := Lib.hid hi; clear hi h
          go_enter Try.func37, Try.ntmps37
          go_wp2_with fail
          refine (counts_calls i _).mono ?_
          rintro e w' ⟨rfl, rfl⟩
          rw [Hi.out]
          go_wp2
          refine bodyPost_ret (v := .bool false) (by simp [results, Try.results37, go_sem]) rfl ⟨rfl, below_two w _ _⟩
        | true =>
          have hu : countB u = false := by
            cases hu : countB u with
            | false => rfl
            | true => exact absurd ⟨⟨rfl, h2, h3⟩, hi, hu⟩ h
          have Hi := Lib.hid hi; clear hi h
          have Hu := Lib.hid hu; clear hu
          go_enter Try.func37, Try.ntmps37
          go_wp2_with fail
          refine (counts_calls i _).mono ?_
          rintro e w' ⟨rfl, rfl⟩
          rw [Hi.out]
          go_wp2_with fail
          refine (counts_calls u _).mono ?_
          rintro e w' ⟨rfl, rfl⟩
          rw [Hu.out]
          go_wp2
          refine bodyPost_ret (v := .bool false) (by simp [results, Try.results37, go_sem]) rfl ⟨rfl, below_two w _ _⟩
      · clear h
        go_enter Try.func37, Try.ntmps37
        go_wp2
        refine bodyPost_ret (v := .bool false) (by simp [results, Try.results37, go_sem]) rfl ⟨rfl, below_two w _ _⟩
    · clear h
      go_enter Try.func37, Try.ntmps37
      go_wp2
      refine bodyPost_ret (v := .bool false) (by simp [results, Try.results37, go_sem]) rfl ⟨rfl, below_two w _ _⟩
  · clear h
    have h1' : ((n : Int) != m) = true := bne_iff_ne.2 h1
    go_enter Try.func37, Try.ntmps37
    go_wp2
    refine bodyPost_ret (v := .bool false) (by simp [results, Try.results37, go_sem]) rfl ⟨rfl, below_two w _ _⟩
end
theorem may_calls (a : Option Addr) (n c : Nat) (i u m who : Int) (la : List Int) (hn : n = la.length) (w : World) (hA : Nums w (.slice a n c) la) :
    Calls Try.prog 37 #[rowV i u (.slice a n c), .int .i64 m, .int .i64 who] w (Says w (mayR i u la m who)) := by
  by_cases h : ((n : Int) = m ∧ 0 ≤ who ∧ who < m) ∧ countB i = true ∧ countB u = true
  · have e : mayR i u la m who = fits (la.zip (mosts who n)) := by
      unfold mayR
      rw [← hn, decide_eq_true h.1, h.2.1, h.2.2]; rfl
    rw [e]
    obtain ⟨⟨rfl, h0, h1⟩, hi, hu⟩ := h
    exact callsIn_wide.1 (may_loop Fence.wide 9 (fun _ => trivial) rfl (by decide) a n c i u who la hn w hA h0 h1 hi hu)
  · have e : mayR i u la m who = false := by
      unfold mayR
      rw [← hn]
      cases hd : decide ((n : Int) = m ∧ 0 ≤ who ∧ who < m) with
      | false => rfl
      | true =>
        cases hi : countB i with
        | false => rfl
        | true =>
          cases hu : countB u with
          | false => rfl
          | true => exact absurd ⟨of_decide_eq_true hd, hi, hu⟩ h
    rw [e]
    exact may_no a n c i u m who w h
end Go.Proofs.Ytgonboccklpoaaa
